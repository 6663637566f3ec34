"""Writes calls as the lists of numbers that the program reads, and takes its answers apart."""

import itertools

from worthroutes.maps import answers

LEAST_INT = -2147483648
GREATEST_INT = 2147483647
MOST_CALLS = 400

JOINT = [0, 0, 0, 0, 0]
CLEAR = [6]
GRAPH = [7]
RUN = [11]
REACH = [15]
GREEDY = [18]


def stop(worth=0, full=0, base=0):
    return [0, 1, worth, full, base]


def node(stop_bit, worth, full, base):
    return [0, stop_bit, worth, full, base]


def line(a, b):
    return [1, a, b]


def set_stop(place, worth, full, base):
    return [2, place, worth, full, base]


def unline(place):
    return [3, place]


def train(length):
    return [4, length]


def scrap(place):
    return [5, place]


def count(length):
    return [8, length]


def route(length, place):
    return [9, length, place]


def best(length):
    return [10, length]


def path(nodes):
    return [12, len(nodes)] + list(nodes)


def check_row(row):
    return [13, len(row)] + list(row)


def check(*paths):
    return check_row([number for nodes in paths for number in [len(nodes)] + list(nodes)])


def bound(values, prices):
    return [14, len(values)] + list(values) + [len(prices)] + list(prices)


def without(place):
    return [16, place]


def more(length):
    return [17, length]


def chain(places):
    return [line(places[k], places[k + 1]) for k in range(len(places) - 1)]


def flat(calls):
    return [number for call in calls for number in call]


def apart(answered):
    """The answers one by one, without the counts before them."""
    found = []
    place = 0
    while place < len(answered):
        many = answered[place]
        found.append(answered[place + 1:place + 1 + many])
        place += 1 + many
    if sum(len(one) + 1 for one in found) != len(answered):
        raise AssertionError("a count goes beyond the answer's end")
    return found


def each_answer(calls):
    if len(calls) > MOST_CALLS:
        raise AssertionError("more calls than a list may have")
    return apart(answers(flat(calls)))


def last_answer(calls):
    return each_answer(calls)[-1]


def told_routes(calls, length):
    """The answers for each route, asked place by place until there's none."""
    many = last_answer(calls + [count(length)])[0]
    asked = [route(length, place) for place in range(many + 1)]
    at_once = MOST_CALLS - len(calls)
    told = []
    for first in range(0, len(asked), at_once):
        told += each_answer(calls + asked[first:first + at_once])[len(calls):]
    if told[-1] != [-8]:
        raise AssertionError(f"behind the last route: {told[-1]}")
    return told[:-1]


def all_routes(calls, length):
    """Each route's nodes."""
    return [one[3:] for one in told_routes(calls, length)]


def group(first, many, base=1, worth=1):
    """Stops of which each is joined with each other one."""
    places = range(first, first + many)
    return [stop(worth, 0, base)] * many + [line(a, b) for a, b in itertools.combinations(places, 2)]


def ring(first, many, base=1, worth=1):
    places = list(range(first, first + many))
    return [stop(worth, 0, base)] * many + chain(places + [first])


def groups(sizes, base=1, worth=1):
    """Groups apart from one another."""
    calls = []
    first = 0
    for many in sizes:
        calls += group(first, many, base, worth)
        first += many
    return calls


def answers_behind(before, asked):
    """The answers to what is asked of that map; it must be the same behind each of them."""
    told = []
    at_once = (MOST_CALLS - len(before) - 1) // 2
    for first in range(0, len(asked), at_once):
        calls = before + [GRAPH]
        for call in asked[first:first + at_once]:
            calls += [call, GRAPH]
        behind = each_answer(calls)[len(before):]
        if any(one != behind[0] for one in behind[::2]):
            raise AssertionError("a call that only tells has changed the map")
        told += behind[1::2]
    return told


def answer_behind(before, call):
    return answers_behind(before, [call])[0]


def check_refused(case, before, call, refusal):
    """The call is refused with that number, and the map is the same behind it."""
    told = each_answer(before + [GRAPH, call, GRAPH])[len(before):]
    case.assertEqual(told[1], [refusal], call)
    case.assertEqual(told[0], told[2], call)
