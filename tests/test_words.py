"""Ways and routes against the document's words, tried on every list of nodes of small maps."""

import itertools
import random
import unittest

from building import line, node, told_routes
from worthroutes.changes import add_line, add_node
from worthroutes.railmap import RailMap
from worthroutes.routes import find_ways


class SmallMap:
    def __init__(self, nodes, lines):
        self.nodes = nodes
        self.lines = lines

    def calls(self):
        return [node(*one) for one in self.nodes] + [line(*one) for one in self.lines]

    def is_stop(self, place):
        return self.nodes[place][0] == 1

    def is_shut(self, place):
        return self.nodes[place][2] == 1 and self.nodes[place][3] == 0

    def stops(self, places):
        return sum(self.nodes[place][0] for place in places)

    def worth(self, places):
        return sum(self.nodes[place][1] for place in places)

    def hangs_together(self, places):
        pairs = zip(places, places[1:])
        return all((a, b) in self.lines or (b, a) in self.lines for a, b in pairs)

    def passes_a_shut_stop(self, places):
        return any(self.is_shut(place) for place in places[1:-1])

    def lists(self):
        """Every list of one or more nodes with none there twice, in order."""
        every = range(len(self.nodes))
        found = []
        for many in range(1, len(self.nodes) + 1):
            found += itertools.permutations(every, many)
        return [list(one) for one in sorted(found)]

    def ways(self):
        return [
            one for one in self.lists()
            if self.is_stop(one[0]) and self.hangs_together(one) and not self.passes_a_shut_stop(one)
        ]

    def routes(self, ways):
        return [
            one for one in ways
            if len(one) >= 2 and self.is_stop(one[-1]) and one[0] < one[-1]
            and any(self.nodes[place][3] == 1 for place in one)
        ]


def small_map(source):
    nodes = []
    for place in range(source.randint(1, 6)):
        if source.randint(0, 2) == 0:
            nodes.append((0, 0, 0, 0))
        else:
            full = 1 if source.randint(0, 2) == 0 else 0
            base = 1 if source.randint(0, 2) == 0 else 0
            nodes.append((1, source.randint(0, 1000000), full, base))
    pairs = [pair for pair in itertools.permutations(range(len(nodes)), 2) if source.randint(0, 1) == 0]
    lines = []
    for a, b in source.sample(pairs, len(pairs)):
        if (b, a) not in lines:
            lines.append((a, b))
    return SmallMap(nodes, lines)


def rail_map(small):
    rails = RailMap()
    for one in small.nodes:
        add_node(rails, *one)
    for one in small.lines:
        add_line(rails, *one)
    return rails


class WordsTest(unittest.TestCase):
    def setUp(self):
        # A fixed seed: the same maps each time.
        source = random.Random(20)
        self.maps = [small_map(source) for k in range(60)]

    def test_ways(self):
        for small in self.maps:
            every = small.ways()
            for length in range(2, 9):
                wanted = [one for one in every if small.stops(one) <= length]
                found = [way.nodes for way in find_ways(rail_map(small), length)]
                self.assertEqual(found, wanted, (small.nodes, small.lines, length))

    def test_routes(self):
        for small in self.maps:
            every = small.routes(small.ways())
            for length in range(2, 9):
                routes = [one for one in every if small.stops(one) <= length]
                wanted = [[small.worth(one), small.stops(one), len(one)] + one for one in routes]
                self.assertEqual(told_routes(small.calls(), length), wanted, (small.nodes, small.lines, length))


if __name__ == "__main__":
    unittest.main()
