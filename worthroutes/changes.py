"""The calls that change the map. Each answers a list of numbers, or a refusal's number alone."""

from worthroutes.railmap import MOST_LINES, MOST_NODES, MOST_TRAINS, Node
from worthroutes.railmap import are_joined, has_place, is_bit, is_length, is_worth
from worthroutes.refusals import JOINED_ALREADY, NO_ROOM, NO_SUCH_LINE, NO_SUCH_NODE
from worthroutes.refusals import NO_SUCH_TRAIN, NOT_A_STOP, WRONG_NUMBER


def fits_stop(worth, full, base):
    return is_worth(worth) and is_bit(full) and is_bit(base)


def fits_joint(worth, full, base):
    return worth == 0 and full == 0 and base == 0


def fits_node(stop, worth, full, base):
    if stop == 1:
        return fits_stop(worth, full, base)
    return stop == 0 and fits_joint(worth, full, base)


def add_node(rails, stop, worth, full, base):
    if not fits_node(stop, worth, full, base):
        return [WRONG_NUMBER]
    if len(rails.nodes) >= MOST_NODES:
        return [NO_ROOM]
    rails.nodes.append(Node(stop, worth, full, base))
    return [len(rails.nodes) - 1]


def add_line(rails, a, b):
    if not has_place(rails.nodes, a) or not has_place(rails.nodes, b):
        return [NO_SUCH_NODE]
    if a == b:
        return [WRONG_NUMBER]
    if are_joined(rails, a, b):
        return [JOINED_ALREADY]
    if len(rails.lines) >= MOST_LINES:
        return [NO_ROOM]
    rails.lines.append((a, b))
    return [len(rails.lines) - 1]


def set_stop(rails, place, worth, full, base):
    if not has_place(rails.nodes, place):
        return [NO_SUCH_NODE]
    if not fits_stop(worth, full, base):
        return [WRONG_NUMBER]
    if rails.nodes[place].stop == 0:
        return [NOT_A_STOP]
    rails.nodes[place] = Node(1, worth, full, base)
    return [0]


def remove_line(rails, place):
    if not has_place(rails.lines, place):
        return [NO_SUCH_LINE]
    rails.lines.pop(place)
    return [0]


def add_train(rails, length):
    if not is_length(length):
        return [WRONG_NUMBER]
    if len(rails.trains) >= MOST_TRAINS:
        return [NO_ROOM]
    rails.trains.append(length)
    return [len(rails.trains) - 1]


def scrap_train(rails, place):
    if not has_place(rails.trains, place):
        return [NO_SUCH_TRAIN]
    rails.trains.pop(place)
    return [0]


def clear_map(rails):
    rails.nodes = []
    rails.lines = []
    rails.trains = []
    return [0]
