"""Judges paths that anybody tells: one by itself, and one for each train."""

from worthroutes.along import line_bits, lines_along
from worthroutes.railmap import are_joined, has_place
from worthroutes.reading import Reader
from worthroutes.refusals import WRONG_ROW

NOTHING = 0
TOO_SHORT = 1
NO_NODE = 2
NOT_JOINED = 3
NODE_TWICE = 4
END_NO_STOP = 5
SHUT_BETWEEN = 6
NO_BASE = 7
TOO_MANY_STOPS = 8

ALL_RIGHT = 0
TRAIN_WRONG = 1
LINE_SHARED = 2


def has_below_0(row):
    return any([number < 0 for number in row])


def are_nodes(rails, nodes):
    return all([has_place(rails.nodes, place) for place in nodes])


def hangs_together(rails, nodes):
    return all([are_joined(rails, nodes[k - 1], nodes[k]) for k in range(1, len(nodes))])


def ends_at_stops(rails, nodes):
    return rails.nodes[nodes[0]].stop == 1 and rails.nodes[nodes[-1]].stop == 1


def passes_shut_stop(rails, nodes):
    return any([rails.nodes[place].is_shut() for place in nodes[1:-1]])


def has_base(rails, nodes):
    return any([rails.nodes[place].base == 1 for place in nodes])


def stops_on(rails, nodes):
    return sum([rails.nodes[place].stop for place in nodes])


def worth_of(rails, nodes):
    return sum([rails.nodes[place].worth for place in nodes])


def what_is_wrong(rails, nodes):
    """The first that's wrong of the list of nodes; NOTHING if it is a right path."""
    # A number below 0 is told ahead of all else, of too few nodes too.
    if has_below_0(nodes):
        return NO_NODE
    if len(nodes) < 2:
        return TOO_SHORT
    if not are_nodes(rails, nodes):
        return NO_NODE
    if not hangs_together(rails, nodes):
        return NOT_JOINED
    if len(set(nodes)) < len(nodes):
        return NODE_TWICE
    if not ends_at_stops(rails, nodes):
        return END_NO_STOP
    if passes_shut_stop(rails, nodes):
        return SHUT_BETWEEN
    if not has_base(rails, nodes):
        return NO_BASE
    return NOTHING


def judge_path(rails, nodes):
    wrong = what_is_wrong(rails, nodes)
    if wrong != NOTHING:
        return [wrong]
    return [NOTHING, stops_on(rails, nodes), worth_of(rails, nodes)]


def read_paths(row, many):
    """So many paths, each with its count before it; None if the row isn't just these."""
    if has_below_0(row):
        return None
    reader = Reader(row)
    paths = []
    while len(paths) < many and reader.has_more():
        paths.append(reader.take_row())
    # A path that the row ends within has taken the reader beyond the row's end.
    if len(paths) < many or reader.place != len(row):
        return None
    return paths


def wrong_for_train(rails, nodes, length):
    if len(nodes) == 0:
        return NOTHING
    wrong = what_is_wrong(rails, nodes)
    if wrong == NOTHING and stops_on(rails, nodes) > length:
        return TOO_MANY_STOPS
    return wrong


def first_wrong_train(rails, paths):
    """The first train whose path is wrong, and what is wrong of it; None if all are right."""
    for train in range(len(paths)):
        wrong = wrong_for_train(rails, paths[train], rails.trains[train])
        if wrong != NOTHING:
            return [train, wrong]
    return None


def first_sharing_trains(rails, paths):
    """The first two trains whose paths have a line in common; None if no two have."""
    bits = line_bits(rails)
    lines = [lines_along(bits, nodes) for nodes in paths]
    for first in range(len(lines)):
        for second in range(first + 1, len(lines)):
            if lines[first] & lines[second] != 0:
                return [first, second]
    return None


def check_paths(rails, row):
    paths = read_paths(row, len(rails.trains))
    if paths is None:
        return [WRONG_ROW]
    wrong = first_wrong_train(rails, paths)
    if wrong is not None:
        return [TRAIN_WRONG] + wrong
    sharing = first_sharing_trains(rails, paths)
    if sharing is not None:
        return [LINE_SHARED] + sharing
    return [ALL_RIGHT, sum([worth_of(rails, nodes) for nodes in paths])]
