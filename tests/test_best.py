"""Promise 10: best."""

import unittest

from building import (
    GREATEST_INT, JOINT, LEAST_INT, answer_behind, answers_behind, best, chain, check_refused, line, ring,
    set_stop, stop, train,
)


class BestTest(unittest.TestCase):
    row = [stop(10, 0, 1), stop(20), stop(0), stop(40)] + chain(range(4))

    def test_the_richest_that_the_length_allows(self):
        told = answers_behind(self.row, [best(length) for length in (2, 3, 4, 8)])
        self.assertEqual(told, [[30, 2, 2, 0, 1], [30, 2, 2, 0, 1], [70, 4, 4, 0, 1, 2, 3], [70, 4, 4, 0, 1, 2, 3]])

    def test_the_richest_wherever_it_stands_in_order(self):
        star = [stop(1, 0, 1), stop(7), stop(9), stop(8), line(0, 3), line(0, 2), line(0, 1)]
        self.assertEqual(answer_behind(star, best(2)), [10, 2, 2, 0, 2])
        self.assertEqual(answer_behind(star, best(3)), [18, 3, 3, 2, 0, 3])
        self.assertEqual(answer_behind(star + [set_stop(3, 10, 0, 0)], best(2)), [11, 2, 2, 0, 3])
        self.assertEqual(answer_behind(star + [set_stop(1, 10, 0, 0)], best(2)), [11, 2, 2, 0, 1])

    def test_of_several_the_first(self):
        self.assertEqual(answer_behind(ring(0, 5), best(2)), [2, 2, 2, 0, 1])
        self.assertEqual(answer_behind(ring(0, 5), best(5)), [5, 5, 5, 0, 1, 2, 3, 4])
        later = [stop(1), stop(2), stop(9, 0, 1), stop(5), stop(5), line(2, 4), line(2, 3), line(1, 2), line(0, 2)]
        self.assertEqual(answer_behind(later, best(2)), [14, 2, 2, 2, 3])

    def test_of_several_the_first_is_the_shorter_one(self):
        calls = [stop(3, 0, 1), stop(4), stop(0), stop(0)] + chain(range(4))
        self.assertEqual(answer_behind(calls, best(8)), [7, 2, 2, 0, 1])

    def test_all_of_worth_0(self):
        calls = [stop(0), stop(0, 0, 1), stop(0)] + chain(range(3))
        self.assertEqual(answer_behind(calls, best(3)), [0, 2, 2, 0, 1])
        self.assertEqual(answer_behind([stop(0, 0, 1), JOINT, stop(0)] + chain(range(3)), best(2)), [0, 2, 3, 0, 1, 2])

    def test_no_route(self):
        for calls in ([], [stop(5, 0, 1)], [stop(5), stop(5), line(0, 1)], [stop(5, 0, 1), stop(5)],
                      [stop(5, 0, 1), JOINT, line(0, 1)], [stop(5, 0, 1), JOINT, stop(5), line(0, 1)]):
            self.assertEqual(answers_behind(calls, [best(2), best(8)]), [[0, 0, 0], [0, 0, 0]])

    def test_joints_and_shut_stops(self):
        calls = [stop(5), JOINT, stop(6, 1, 0), stop(7, 0, 1), stop(9)] + chain([3, 1, 2, 4]) + [line(0, 3)]
        self.assertEqual(answer_behind(calls, best(8)), [18, 3, 4, 0, 3, 1, 2])

    def test_the_most_that_a_route_may_be_worth(self):
        calls = [stop(1000000, 0, 1)] * 8 + chain(range(8))
        self.assertEqual(answer_behind(calls, best(8)), [8000000, 8, 8, 0, 1, 2, 3, 4, 5, 6, 7])

    def test_trains_have_no_part_in_it(self):
        self.assertEqual(answer_behind(self.row + [train(2), train(3)], best(4)), [70, 4, 4, 0, 1, 2, 3])

    def test_wrong_length(self):
        for wrong in (1, 9, 0, -1, LEAST_INT, GREATEST_INT):
            check_refused(self, self.row, best(wrong), -2)
            check_refused(self, [], best(wrong), -2)


if __name__ == "__main__":
    unittest.main()
