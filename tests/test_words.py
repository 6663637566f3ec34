"""All that only tells, against the document's words, tried on small maps: every list of nodes, every run."""

import itertools
import random
import unittest

from building import (
    CLEAR, GRAPH, GREEDY, REACH, RUN, answers_behind, best, bound, check_row, count, each_answer, line, more,
    node, path, route, scrap, set_stop, told_routes, train, unline, without,
)
from worthroutes.changes import add_line, add_node
from worthroutes.railmap import RailMap
from worthroutes.routes import find_ways


class SmallMap:
    """Nodes as (stop, worth, full, base), lines as pairs, trains as lengths."""

    def __init__(self, nodes, lines, trains=()):
        self.nodes = nodes
        self.lines = lines
        self.trains = list(trains)

    def calls(self):
        nodes = [node(*one) for one in self.nodes]
        return nodes + [line(*one) for one in self.lines] + [train(length) for length in self.trains]

    def is_stop(self, place):
        return self.nodes[place][0] == 1

    def is_shut(self, place):
        return self.nodes[place][2] == 1 and self.nodes[place][3] == 0

    def stops(self, places):
        return sum(self.nodes[place][0] for place in places)

    def worth(self, places):
        return sum(self.nodes[place][1] for place in places)

    def hangs_together(self, places):
        pairs = zip(places, places[1:])
        return all((a, b) in self.lines or (b, a) in self.lines for a, b in pairs)

    def passes_a_shut_stop(self, places):
        return any(self.is_shut(place) for place in places[1:-1])

    def lists(self):
        """Every list of one or more nodes with none there twice, in order."""
        every = range(len(self.nodes))
        found = []
        for many in range(1, len(self.nodes) + 1):
            found += itertools.permutations(every, many)
        return [list(one) for one in sorted(found)]

    def ways(self):
        return [
            one for one in self.lists()
            if self.is_stop(one[0]) and self.hangs_together(one) and not self.passes_a_shut_stop(one)
        ]

    def routes(self, ways):
        return [
            one for one in ways
            if len(one) >= 2 and self.is_stop(one[-1]) and one[0] < one[-1]
            and any(self.nodes[place][3] == 1 for place in one)
        ]

    def routes_for(self, length):
        return [one for one in self.routes(self.ways()) if self.stops(one) <= length]

    def route_lines(self, places):
        """The numbers of the lines between nodes that follow one another."""
        return [
            number for number, (a, b) in enumerate(self.lines)
            if any({a, b} == {c, d} for c, d in zip(places, places[1:]))
        ]

    def share_no_line(self, paths):
        used = [number for places in paths for number in self.route_lines(places)]
        return len(used) == len(set(used))

    def told(self, places):
        return [self.worth(places), self.stops(places), len(places)] + places

    def best(self, length):
        routes = self.routes_for(length)
        most = max([self.worth(one) for one in routes], default=0)
        return [self.told(one) for one in routes if self.worth(one) == most][0] if routes else [0, 0, 0]

    def run(self):
        # The product has its runs train by train in order; none is an empty list behind all routes.
        runs = itertools.product(*[self.routes_for(length) + [[]] for length in self.trains])
        right = [one for one in runs if self.share_no_line(one)]
        worths = [sum(self.worth(places) for places in one) for one in right]
        first = right[worths.index(max(worths))]
        return [max(worths)] + [number for places in first for number in [len(places)] + places]

    def many_runs(self):
        product = 1
        for length in self.trains:
            product *= 1 + len(self.routes_for(length))
        return product

    def greedy(self):
        taken = []
        for number in sorted(range(len(self.trains)), key=lambda number: (-self.trains[number], number)):
            free = [one for one in self.routes_for(self.trains[number]) if self.share_no_line(taken + [one])]
            most = max([self.worth(one) for one in free], default=0)
            taken += [one for one in free if self.worth(one) == most][:1]
        return [sum(self.worth(one) for one in taken)]

    def wrong(self, row):
        """What's wrong of the row as a path; 0 if nothing is."""
        if any(number < 0 for number in row):
            return 2
        if len(row) < 2:
            return 1
        if any(number not in range(len(self.nodes)) for number in row):
            return 2
        if not self.hangs_together(row):
            return 3
        if any(row.count(number) > 1 for number in row):
            return 4
        if not self.is_stop(row[0]) or not self.is_stop(row[-1]):
            return 5
        if self.passes_a_shut_stop(row):
            return 6
        return 0 if any(self.nodes[place][3] == 1 for place in row) else 7

    def path(self, row):
        wrong = self.wrong(row)
        return [wrong] if wrong else [0, self.stops(row), self.worth(row)]

    def check(self, row):
        if any(number < 0 for number in row):
            return [-3]
        left = list(row)
        paths = []
        for length in self.trains:
            if not left or len(left) <= left[0]:
                return [-3]
            paths.append(left[1:1 + left[0]])
            left = left[1 + left[0]:]
        if left:
            return [-3]
        for number, places in enumerate(paths):
            if places and self.wrong(places):
                return [1, number, self.wrong(places)]
            if self.stops(places) > self.trains[number]:
                return [1, number, 8]
        for a, b in itertools.combinations(range(len(paths)), 2):
            if not self.share_no_line([paths[a], paths[b]]):
                return [2, a, b]
        return [0, sum(self.worth(places) for places in paths)]

    def bound(self, values, prices):
        if len(values) != len(self.trains) or len(prices) != len(self.lines):
            return [-3]
        if any(number not in range(1000000001) for number in values + prices):
            return [-3]
        for number, length in enumerate(self.trains):
            for place, one in enumerate(self.routes_for(length)):
                if self.worth(one) > values[number] + sum(prices[k] for k in self.route_lines(one)):
                    return [0, number, place]
        return [1, sum(values + prices)]

    def reach(self):
        reached = {place for place, one in enumerate(self.nodes) if one[3] == 1}
        for again in self.nodes:
            for a, b in self.lines:
                if a in reached and not self.is_shut(a):
                    reached.add(b)
                if b in reached and not self.is_shut(b):
                    reached.add(a)
        return [len(reached)] + sorted(reached)

    def without(self, place):
        if place not in range(len(self.lines)):
            return [-5]
        return SmallMap(self.nodes, self.lines[:place] + self.lines[place + 1:], self.trains).run()[:1]

    def more(self, length):
        if length not in range(2, 9):
            return [-2]
        return SmallMap(self.nodes, self.lines, self.trains + [length]).run()[:1]

    def graph(self):
        told = [len(self.nodes)] + [number for one in self.nodes for number in one]
        told += [len(self.lines)] + [number for one in self.lines for number in one]
        return told + [len(self.trains)] + self.trains

    def refused(self, call):
        """The refusal of a call that changes the map; None if it isn't refused."""
        number, told = call[0], call[1:]
        if number == 0:
            joint = told[0] == 0 and told[1:] == [0, 0, 0]
            return None if joint or told[0] == 1 and fits_stop(told[1:]) else -2
        if number == 1:
            if told[0] not in range(len(self.nodes)) or told[1] not in range(len(self.nodes)):
                return -1
            if told[0] == told[1]:
                return -2
            return -6 if self.hangs_together(told) else None
        if number == 2:
            if told[0] not in range(len(self.nodes)):
                return -1
            if not fits_stop(told[1:]):
                return -2
            return None if self.is_stop(told[0]) else -3
        if number == 3:
            return None if told[0] in range(len(self.lines)) else -5
        if number == 4:
            if told[0] not in range(2, 9):
                return -2
            return -4 if len(self.trains) == 4 else None
        if number == 5:
            return None if told[0] in range(len(self.trains)) else -7
        return None

    def changed(self, call):
        """The answer to a call that changes the map, and the map behind it."""
        refusal = self.refused(call)
        if refusal is not None:
            return [refusal], self
        number, told = call[0], call[1:]
        nodes, lines, trains = list(self.nodes), list(self.lines), list(self.trains)
        if number == 0:
            return [len(nodes)], SmallMap(nodes + [tuple(told)], lines, trains)
        if number == 1:
            return [len(lines)], SmallMap(nodes, lines + [tuple(told)], trains)
        if number == 2:
            nodes[told[0]] = (1,) + tuple(told[1:])
        if number == 3:
            lines.pop(told[0])
        if number == 4:
            return [len(trains)], SmallMap(nodes, lines, trains + told)
        if number == 5:
            trains.pop(told[0])
        if number == 6:
            return [0], SmallMap([], [])
        return [0], SmallMap(nodes, lines, trains)

    def answer(self, call):
        """The answer to a call that only tells."""
        number, told = call[0], call[1:]
        if number in (8, 9, 10) and told[0] not in range(2, 9):
            return [-2]
        if number == 9:
            routes = self.routes_for(told[0])
            return self.told(routes[told[1]]) if told[1] in range(len(routes)) else [-8]
        if number == 14:
            return self.bound(told[1:1 + told[0]], told[2 + told[0]:])
        return {
            7: self.graph, 8: lambda: [len(self.routes_for(told[0]))], 10: lambda: self.best(told[0]),
            11: self.run, 12: lambda: self.path(told[1:]), 13: lambda: self.check(told[1:]), 15: self.reach,
            16: lambda: self.without(told[0]), 17: lambda: self.more(told[0]), 18: self.greedy,
        }[number]()


def fits_stop(told):
    return told[0] in range(1000001) and told[1] in (0, 1) and told[2] in (0, 1)


def small_map(source, most=6, trains=0, worth=1000000):
    nodes = []
    for place in range(source.randint(1, most)):
        if source.randint(0, 2) == 0:
            nodes.append((0, 0, 0, 0))
        else:
            full = 1 if source.randint(0, 2) == 0 else 0
            base = 1 if source.randint(0, 2) == 0 else 0
            nodes.append((1, source.randint(0, worth), full, base))
    pairs = [pair for pair in itertools.permutations(range(len(nodes)), 2) if source.randint(0, 1) == 0]
    lines = []
    for a, b in source.sample(pairs, len(pairs)):
        if (b, a) not in lines:
            lines.append((a, b))
    return SmallMap(nodes, lines, [source.randint(2, 5) for k in range(source.randint(0, trains))])


def rail_map(small):
    rails = RailMap()
    for one in small.nodes:
        add_node(rails, *one)
    for one in small.lines:
        add_line(rails, *one)
    return rails


def small_run_map(source, most_runs):
    """A map with bases and trains, but not with more runs than can be tried one by one."""
    while True:
        small = small_map(source, 6, 4, source.choice([0, 1, 3, 100]))
        if 2 <= small.many_runs() <= most_runs:
            return small


def some_path(source, small):
    """A route from either end, or some nodes one behind another, or anything."""
    kind = source.randint(0, 5)
    routes = small.routes(small.ways())
    if kind < 4 and routes:
        return source.choice(routes)[::source.choice([1, -1])]
    if kind == 4 and small.nodes:
        return source.choice(small.lists())
    return [source.randint(0, len(small.nodes)) for k in range(source.randint(0, 4))]


def some_row(source, small):
    row = []
    for length in small.trains:
        places = some_path(source, small) if source.randint(0, 3) else []
        row += [len(places)] + places
    change = source.randint(0, 11)
    if change == 0 and row:
        row[source.randrange(len(row))] += source.choice([-1, 1])
    if change == 1:
        row += [0]
    if change == 2:
        row = row[:-1]
    return row


def some_bound(source, small):
    """Values and prices of which about half are accepted, or some that don't fit."""
    values = []
    for length in small.trains:
        most = max([small.worth(one) for one in small.routes_for(length)], default=0)
        values.append(max(0, most - source.choice([0, 0, 0, 1, 5, 60])))
    prices = [source.choice([0, 1, 2, 30]) for one in small.lines]
    change = source.randint(0, 9)
    if change == 0:
        values.append(0)
    if change == 1:
        prices.append(0)
    if change == 2 and prices:
        prices[-1] = source.choice([-1, 1000000001, 1000000000])
    if change == 3 and values:
        values[-1] = source.choice([-1, 1000000001, 1000000000])
    return values, prices


def some_change(source, small):
    place = source.randint(-1, len(small.nodes))
    bits = [source.choice([0, 0, 0, 1]), source.choice([0, 1])]
    worth = source.choice([0, 1, 5, 20, 300, -1, 1000001])
    kinds = [
        [set_stop(place, worth, *bits)], [unline(source.randint(-1, len(small.lines)))],
        [train(source.randint(1, 6))] * 2, [scrap(source.randint(-1, len(small.trains)))],
        [line(place, source.randint(-1, len(small.nodes)))] * 8,
    ]
    if len(small.nodes) < 5:
        kinds.append([node(1, worth, *bits), node(1, abs(worth), 0, 1), node(source.randint(0, 2), 0, 0, 0)] * 4)
    if source.randint(0, 8) == 0:
        kinds.append([CLEAR])
    return source.choice([call for kind in kinds for call in kind])


def some_question(source, small):
    length = source.randint(1, 9)
    kinds = [
        GRAPH, count(length), route(length, source.randint(-1, 9)), best(length), path(some_path(source, small)),
        path([source.randint(-1, 5)]), check_row(some_row(source, small)), bound(*some_bound(source, small)), REACH,
        GREEDY,
    ]
    if small.many_runs() <= 500:
        kinds += [RUN, RUN, without(source.randint(-1, len(small.lines)))]
    if small.many_runs() * (1 + len(small.routes_for(length))) <= 2000:
        kinds += [more(length)]
    return source.choice(kinds)


class MixedTest(unittest.TestCase):
    """Lists of all calls one among another."""

    def check_list(self, source, asked):
        small = SmallMap([], [])
        calls = []
        wanted = []
        while len(calls) < 400:
            if source.randint(0, 2) > 0:
                calls.append(some_change(source, small))
                told, small = small.changed(calls[-1])
            else:
                calls.append(some_question(source, small))
                told = small.answer(calls[-1])
                asked[(calls[-1][0], told[0] < 0)] = True
            wanted.append(told)
        for number, told in enumerate(each_answer(calls)):
            self.assertEqual(told, wanted[number], calls[:number + 1])

    def test_lists(self):
        source = random.Random(25)
        asked = {}
        for k in range(12):
            self.check_list(source, asked)
        answered = [number for number in range(7, 19) if (number, False) in asked]
        refused = [number for number in range(7, 19) if (number, True) in asked]
        self.assertEqual(answered, list(range(7, 19)))
        self.assertEqual(refused, [8, 9, 10, 13, 14, 16, 17])


class WordsTest(unittest.TestCase):
    def setUp(self):
        # A fixed seed: the same maps each time.
        source = random.Random(20)
        self.maps = [small_map(source) for k in range(60)]

    def test_ways(self):
        for small in self.maps:
            every = small.ways()
            for length in range(2, 9):
                wanted = [one for one in every if small.stops(one) <= length]
                found = [way.nodes for way in find_ways(rail_map(small), length)]
                self.assertEqual(found, wanted, (small.nodes, small.lines, length))

    def test_routes(self):
        for small in self.maps:
            every = small.routes(small.ways())
            for length in range(2, 9):
                routes = [one for one in every if small.stops(one) <= length]
                wanted = [[small.worth(one), small.stops(one), len(one)] + one for one in routes]
                self.assertEqual(told_routes(small.calls(), length), wanted, (small.nodes, small.lines, length))

    def test_best(self):
        for small in self.maps:
            told = answers_behind(small.calls(), [best(length) for length in range(2, 9)])
            self.assertEqual(told, [small.best(length) for length in range(2, 9)], (small.nodes, small.lines))

    def test_reach(self):
        for small in self.maps:
            self.assertEqual(answers_behind(small.calls(), [REACH]), [small.reach()], (small.nodes, small.lines))

    def test_path(self):
        source = random.Random(21)
        for k in range(12):
            small = small_map(source, 4)
            numbers = range(-1, len(small.nodes) + 1)
            rows = [list(row) for many in range(5) for row in itertools.product(numbers, repeat=many)]
            rows += [one + [one[0]] for one in small.lists()] + small.lists()
            for row, told in zip(rows, answers_behind(small.calls(), [path(row) for row in rows])):
                self.assertEqual(told, small.path(row), (small.nodes, small.lines, row))

    def test_check(self):
        source = random.Random(22)
        kinds = {}
        for k in range(60):
            small = small_map(source, 6, 4)
            rows = [some_row(source, small) for k in range(60)]
            for row, told in zip(rows, answers_behind(small.calls(), [check_row(row) for row in rows])):
                self.assertEqual(told, small.check(row), (small.nodes, small.lines, small.trains, row))
                kinds[told[0]] = kinds.get(told[0], 0) + 1
        # Each kind of answer has come up.
        self.assertEqual(sorted(kinds), [-3, 0, 1, 2])


class TrainsTest(unittest.TestCase):
    def setUp(self):
        source = random.Random(23)
        self.maps = [small_run_map(source, 400) for k in range(80)]
        self.maps += [small_run_map(source, 4000) for k in range(10)]

    def test_run(self):
        for small in self.maps:
            told = answers_behind(small.calls(), [RUN])
            self.assertEqual(told, [small.run()], (small.nodes, small.lines, small.trains))

    def test_greedy(self):
        for small in self.maps:
            told = answers_behind(small.calls(), [GREEDY])
            self.assertEqual(told, [small.greedy()], (small.nodes, small.lines, small.trains))

    def test_greedy_gets_less_on_some_of_them(self):
        told = [answers_behind(small.calls(), [GREEDY, RUN]) for small in self.maps]
        self.assertTrue(all(greedy[0] <= run[0] for greedy, run in told))
        self.assertTrue(any(greedy[0] < run[0] for greedy, run in told))

    def test_without(self):
        for small in self.maps:
            places = range(-1, len(small.lines) + 1)
            told = answers_behind(small.calls(), [without(place) for place in places])
            self.assertEqual(told, [small.without(place) for place in places], (small.nodes, small.lines, small.trains))

    def test_more(self):
        for small in self.maps[:60]:
            lengths = [length for length in (1, 2, 3, 9) if len(small.routes_for(length)) < 12]
            told = answers_behind(small.calls(), [more(length) for length in lengths])
            wanted = [small.more(length) for length in lengths]
            self.assertEqual(told, wanted, (small.nodes, small.lines, small.trains))

    def test_bound(self):
        source = random.Random(24)
        kinds = {}
        for small in self.maps:
            bounds = [some_bound(source, small) for k in range(12)]
            most = small.run()[0]
            for one, told in zip(bounds, answers_behind(small.calls(), [bound(*one) for one in bounds])):
                self.assertEqual(told, small.bound(*one), (small.nodes, small.lines, small.trains, one))
                self.assertTrue(told[0] != 1 or told[1] >= most)
                kinds[told[0]] = kinds.get(told[0], 0) + 1
        self.assertEqual(sorted(kinds), [-3, 0, 1])


if __name__ == "__main__":
    unittest.main()
