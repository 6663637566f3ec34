"""The interface: how a list of calls is read, and how its answers are given back."""

import contextlib
import io
import unittest

from building import (
    CLEAR, GRAPH, GREEDY, JOINT, REACH, RUN, best, bound, chain, check, check_row, count, flat, line, more, path,
    ring, route, scrap, set_stop, stop, train, unline, without,
)
from worthroutes.maps import answers
from worthroutes.reading import read_calls

# Each call, some of them refused, with the answer that is asked for.
EVERY_CALL = [
    (stop(10, 0, 1), [0]), (JOINT, [1]), (stop(20, 1, 0), [2]), (line(0, 1), [0]), (line(1, 2), [1]),
    (set_stop(2, 30, 0, 0), [0]), (RUN, [0]), (train(2), [0]), (train(9), [-2]),
    (GRAPH, [3, 1, 10, 0, 1, 0, 0, 0, 0, 1, 30, 0, 0, 2, 0, 1, 1, 2, 1, 2]),
    (count(2), [1]), (route(2, 0), [40, 2, 3, 0, 1, 2]), (route(2, 1), [-8]), (best(2), [40, 2, 3, 0, 1, 2]),
    (best(1), [-2]), (RUN, [40, 3, 0, 1, 2]), (path([2, 1, 0]), [0, 2, 40]), (path([0, 1]), [5]), (path([]), [1]),
    (check([2, 1, 0]), [0, 40]), (check([0, 2]), [1, 0, 3]), (check_row([]), [-3]), (bound([10], [10, 20]), [1, 40]),
    (bound([10], [10, 19]), [0, 0, 0]), (bound([], []), [-3]), (REACH, [3, 0, 1, 2]), (without(0), [0]),
    (without(2), [-5]), (more(2), [40]), (more(9), [-2]), (GREEDY, [40]),
    (stop(7), [3]), (line(3, 0), [2]), (train(3), [1]), (RUN, [57, 3, 0, 1, 2, 2, 0, 3]), (GREEDY, [47]),
    (check([0, 3], [3, 0]), [2, 0, 1]), (without(1), [17]), (more(2), [57]), (best(3), [47, 3, 4, 2, 1, 0, 3]),
    (unline(1), [0]), (RUN, [17, 2, 0, 3, 0]), (REACH, [3, 0, 1, 3]), (scrap(0), [0]),
    (bound([17], [0, 0]), [1, 17]), (CLEAR, [0]), (GRAPH, [0, 0, 0]), (REACH, [0]), (best(8), [0, 0, 0]), (RUN, [0]),
    (GREEDY, [0]), (check_row([]), [0, 0]), (bound([], []), [1, 0]), (more(8), [0]), (without(0), [-5]),
]
EVERY_LIST = flat([call for call, wanted in EVERY_CALL])


class Unchanged(list):
    """A list that can only be read."""

    def refuse(self, *told):
        raise AssertionError("what is handed in is changed")

    append = extend = insert = pop = remove = clear = sort = reverse = refuse
    __setitem__ = __delitem__ = __iadd__ = __imul__ = refuse


class AnswersTest(unittest.TestCase):
    def test_each_answer_has_its_count_before_it(self):
        wanted = [number for call, one in EVERY_CALL for number in [len(one)] + one]
        self.assertEqual(answers(EVERY_LIST), wanted)
        self.assertEqual(sorted(set(call[0] for call, one in EVERY_CALL)), list(range(19)))

    def test_one_call(self):
        self.assertEqual(answers([7]), [3, 0, 0, 0])
        self.assertEqual(answers([6]), [1, 0])
        self.assertEqual(answers([3, 0]), [1, -5])
        self.assertEqual(answers([10, 8]), [3, 0, 0, 0])
        self.assertEqual(answers([11]), [1, 0])
        self.assertEqual(answers([12, 0]), [1, 1])
        self.assertEqual(answers([13, 0]), [2, 0, 0])
        self.assertEqual(answers([14, 0, 0]), [2, 1, 0])
        self.assertEqual(answers([15]), [1, 0])
        self.assertEqual(answers([16, 0]), [1, -5])
        self.assertEqual(answers([17, 2]), [1, 0])
        self.assertEqual(answers([18]), [1, 0])

    def test_a_list_of_whole_numbers_is_given_back(self):
        told = answers(list(EVERY_LIST))
        self.assertIs(type(told), list)
        self.assertEqual([number for number in told if type(number) is not int], [])

    def test_what_is_handed_in_stays_as_it_is(self):
        calls = list(EVERY_LIST)
        answers(calls)
        self.assertEqual(calls, EVERY_LIST)

    def test_what_is_handed_in_is_not_changed_for_a_while_either(self):
        self.assertEqual(answers(Unchanged(EVERY_LIST)), answers(EVERY_LIST))

    def test_what_is_given_back_is_a_list_of_its_own(self):
        calls = [7]
        answers(calls).append(1)
        self.assertEqual(calls, [7])
        self.assertEqual(answers(calls), [3, 0, 0, 0])

    def test_nothing_is_kept(self):
        # Each beginning of the list, so that each call is once the last one.
        for many in range(1, len(EVERY_CALL) + 1):
            calls = flat([call for call, wanted in EVERY_CALL[:many]])
            first = answers(calls)
            self.assertEqual(answers([7]), [3, 0, 0, 0])
            self.assertEqual(answers(calls), first)

    def test_400_calls(self):
        calls = [stop(1, 0, 1)] * 40 + chain(range(40)) + [count(8)] * 321
        self.assertEqual(len(calls), 400)
        told = answers(flat(calls))
        self.assertEqual(len(told), 800)
        # 40 bases in a row: 39 routes of two stops, 38 of three, and so on to 33 of eight.
        self.assertEqual(told[158:], [1, 39 + 38 + 37 + 36 + 35 + 34 + 33] * 321)

    def test_400_calls_over_all_trains(self):
        # Two rings of twelve bases and the line 24 between them: 51 calls with the trains.
        calls = ring(0, 12) + ring(12, 12) + [line(0, 12), train(3), train(2)]
        self.assertEqual(len(calls), 51)
        told = answers(flat(calls + [RUN, without(24), more(3), GREEDY] * 87 + [RUN]))
        run = [8, 5, 3, 0, 1, 2, 2, 0, 11]
        self.assertEqual(told[102:], (run + [1, 5] + [1, 8] + [1, 5]) * 87 + run)

    def test_nothing_is_printed(self):
        printed = io.StringIO()
        with contextlib.redirect_stdout(printed), contextlib.redirect_stderr(printed):
            answers(EVERY_LIST)
        self.assertEqual(printed.getvalue(), "")


class ReadingTest(unittest.TestCase):
    told = (
        (0, [1, 2, 3, 4], []), (1, [5, 6], []), (2, [7, 8, 9, 10], []), (3, [11], []), (4, [12], []),
        (5, [13], []), (6, [], []), (7, [], []), (8, [14], []), (9, [15, 16], []), (10, [17], []),
        (11, [], []), (12, [], [[18, 19, 20]]), (13, [], [[]]), (13, [], [[0, 0]]),
        (14, [], [[21], [22, 23]]), (14, [], [[], []]), (14, [], [[], [24]]), (15, [], []), (16, [25], []),
        (17, [26], []), (18, [], []), (8, [27], []),
    )

    def test_every_call_is_read_with_its_numbers_and_rows(self):
        listed = []
        for number, numbers, rows in self.told:
            listed += [number] + numbers + [told for row in rows for told in [len(row)] + row]
        read = [(call.number, call.numbers, call.rows) for call in read_calls(listed)]
        self.assertEqual(read, list(self.told))

    def test_the_longest_row(self):
        row = list(range(-500, 500))
        read = read_calls([12, 1000] + row + [7])
        self.assertEqual([call.number for call in read], [12, 7])
        self.assertEqual(read[0].rows, [row])

    def test_a_long_list_is_read_by_a_loop(self):
        self.assertEqual(len(read_calls([7] * 30000)), 30000)


if __name__ == "__main__":
    unittest.main()
