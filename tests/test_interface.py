"""The interface: how a list of calls is read, and how its answers are given back."""

import contextlib
import io
import unittest

from building import chain, count, flat, line, route, stop, train
from worthroutes.maps import answers
from worthroutes.reading import read_calls

EVERY_CALL = [
    stop(10, 0, 1), [0, 0, 0, 0, 0], stop(20, 1, 0), line(0, 1), line(1, 2), [2, 2, 30, 0, 0], train(2),
    train(9), [7], count(2), route(2, 0), route(2, 1), [3, 1], [5, 0], [6], [7],
]
EVERY_ANSWER = [
    [0], [1], [2], [0], [1], [0], [0],
    [-2], [3, 1, 10, 0, 1, 0, 0, 0, 0, 1, 30, 0, 0, 2, 0, 1, 1, 2, 1, 2], [1], [40, 2, 3, 0, 1, 2], [-8],
    [0], [0], [0], [0, 0, 0],
]


class AnswersTest(unittest.TestCase):
    def test_each_answer_has_its_count_before_it(self):
        wanted = [number for one in EVERY_ANSWER for number in [len(one)] + one]
        self.assertEqual(answers(flat(EVERY_CALL)), wanted)

    def test_one_call(self):
        self.assertEqual(answers([7]), [3, 0, 0, 0])
        self.assertEqual(answers([6]), [1, 0])
        self.assertEqual(answers([3, 0]), [1, -5])

    def test_a_list_of_whole_numbers_is_given_back(self):
        told = answers(flat(EVERY_CALL))
        self.assertIs(type(told), list)
        self.assertEqual([number for number in told if type(number) is not int], [])

    def test_what_is_handed_in_stays_as_it_is(self):
        calls = flat(EVERY_CALL)
        answers(calls)
        self.assertEqual(calls, flat(EVERY_CALL))

    def test_what_is_given_back_is_a_list_of_its_own(self):
        calls = [7]
        answers(calls).append(1)
        self.assertEqual(calls, [7])
        self.assertEqual(answers(calls), [3, 0, 0, 0])

    def test_nothing_is_kept(self):
        calls = flat(EVERY_CALL[:-2])
        first = answers(calls)
        self.assertEqual(answers([7]), [3, 0, 0, 0])
        self.assertEqual(answers(calls), first)

    def test_400_calls(self):
        calls = [stop(1, 0, 1)] * 40 + chain(range(40)) + [count(8)] * 321
        self.assertEqual(len(calls), 400)
        told = answers(flat(calls))
        self.assertEqual(len(told), 800)
        # 40 bases in a row: 39 routes of two stops, 38 of three, and so on to 33 of eight.
        self.assertEqual(told[158:], [1, 39 + 38 + 37 + 36 + 35 + 34 + 33] * 321)

    def test_nothing_is_printed(self):
        printed = io.StringIO()
        with contextlib.redirect_stdout(printed), contextlib.redirect_stderr(printed):
            answers(flat(EVERY_CALL))
        self.assertEqual(printed.getvalue(), "")


class ReadingTest(unittest.TestCase):
    told = (
        (0, [1, 2, 3, 4], []), (1, [5, 6], []), (2, [7, 8, 9, 10], []), (3, [11], []), (4, [12], []),
        (5, [13], []), (6, [], []), (7, [], []), (8, [14], []), (9, [15, 16], []), (10, [17], []),
        (11, [], []), (12, [], [[18, 19, 20]]), (13, [], [[]]), (13, [], [[0, 0]]),
        (14, [], [[21], [22, 23]]), (14, [], [[], []]), (14, [], [[], [24]]), (15, [], []), (16, [25], []),
        (17, [26], []), (18, [], []), (8, [27], []),
    )

    def test_every_call_is_read_with_its_numbers_and_rows(self):
        listed = []
        for number, numbers, rows in self.told:
            listed += [number] + numbers + [told for row in rows for told in [len(row)] + row]
        read = [(call.number, call.numbers, call.rows) for call in read_calls(listed)]
        self.assertEqual(read, list(self.told))

    def test_the_longest_row(self):
        row = list(range(-500, 500))
        read = read_calls([12, 1000] + row + [7])
        self.assertEqual([call.number for call in read], [12, 7])
        self.assertEqual(read[0].rows, [row])

    def test_a_long_list_is_read_by_a_loop(self):
        self.assertEqual(len(read_calls([7] * 30000)), 30000)


if __name__ == "__main__":
    unittest.main()
