"""The map: nodes, lines and trains, each kept in the order in which they came."""

MOST_NODES = 40
MOST_LINES = 80
MOST_TRAINS = 4
MOST_WORTH = 1000000
LEAST_LENGTH = 2
MOST_LENGTH = 8


class Node:
    """A stop or a joint. It is never changed: another one takes its place."""

    def __init__(self, stop, worth, full, base):
        self.stop = stop
        self.worth = worth
        self.full = full
        self.base = base

    def is_shut(self):
        return self.full == 1 and self.base == 0


class RailMap:
    """Nodes; lines as pairs of two nodes' numbers; trains as their lengths."""

    def __init__(self):
        self.nodes = []
        self.lines = []
        self.trains = []


def copied_map(rails):
    """Another map with the same nodes, lines and trains, on which a change may be tried."""
    other = RailMap()
    other.nodes = list(rails.nodes)
    other.lines = list(rails.lines)
    other.trains = list(rails.trains)
    return other


def has_place(things, place):
    return 0 <= place < len(things)


def is_bit(number):
    return 0 <= number <= 1


def is_worth(number):
    return 0 <= number <= MOST_WORTH


def is_length(number):
    return LEAST_LENGTH <= number <= MOST_LENGTH


def longest_train(rails):
    return max(rails.trains, default=0)


def are_joined(rails, a, b):
    return (a, b) in rails.lines or (b, a) in rails.lines


def joined_nodes(rails):
    """For each node the nodes that a line joins with it, by rising numbers."""
    joined = [[] for node in rails.nodes]
    for line in rails.lines:
        joined[line[0]].append(line[1])
        joined[line[1]].append(line[0])
    return [sorted(found) for found in joined]


def graph(rails):
    """The whole map as numbers: nodes, lines, trains, each with their count before them."""
    told = [len(rails.nodes)]
    for node in rails.nodes:
        told.extend([node.stop, node.worth, node.full, node.base])
    told.append(len(rails.lines))
    for line in rails.lines:
        told.extend([line[0], line[1]])
    told.append(len(rails.trains))
    told.extend(rails.trains)
    return told
