"""Promise 14: bound."""

import unittest

from building import (
    GREATEST_INT, JOINT, LEAST_INT, RUN, answer_behind, answers_behind, bound, chain, check_refused, each_answer,
    line, scrap, stop, train, unline,
)

MOST = 1000000000

# Routes: [0, 1] 30, [0, 1, 2] 70, [0, 1, 2, 3] 150.
ROW = [stop(10, 0, 1), stop(20), stop(40), stop(80)] + chain(range(4))
# Routes of two stops: [0, 1] 6, [0, 2] 8, [0, 3] 7; behind each of them those of three.
STAR = [stop(1, 0, 1), stop(5), stop(7), stop(6), line(0, 3), line(2, 0), line(0, 1)]


class BoundTest(unittest.TestCase):
    def check_told(self, calls, rows):
        for (values, prices, wanted), told in zip(rows, answers_behind(calls, [bound(*row[:2]) for row in rows])):
            self.assertEqual(told, wanted, (values, prices))

    def test_values_alone(self):
        self.check_told(ROW + [train(2)], [
            ([30], [0, 0, 0], [1, 30]), ([31], [0, 0, 0], [1, 31]), ([29], [0, 0, 0], [0, 0, 0]),
            ([0], [0, 0, 0], [0, 0, 0]),
        ])

    def test_prices_alone(self):
        self.check_told(ROW + [train(4)], [
            ([0], [30, 40, 80], [1, 150]), ([0], [150, 0, 0], [1, 150]), ([0], [29, 200, 200], [0, 0, 0]),
            ([0], [30, 39, 200], [0, 0, 1]), ([0], [30, 40, 79], [0, 0, 2]), ([0], [31, 39, 79], [0, 0, 2]),
        ])

    def test_values_and_prices_together(self):
        self.check_told(ROW + [train(4)], [
            ([30], [0, 40, 80], [1, 150]), ([29], [0, 40, 80], [0, 0, 0]), ([10], [20, 40, 80], [1, 150]),
            ([10], [20, 40, 79], [0, 0, 2]), ([11], [20, 40, 79], [1, 150]), ([10], [20, 39, 99], [0, 0, 1]),
        ])

    def test_only_the_routes_own_lines_are_paid(self):
        # Line 0 goes to stop 3, line 1 to stop 2, line 2 to stop 1.
        self.check_told(STAR + [train(2)], [
            ([0], [7, 8, 6], [1, 21]), ([0], [6, 8, 6], [0, 0, 2]), ([0], [7, 7, 6], [0, 0, 1]),
            ([0], [7, 8, 5], [0, 0, 0]), ([6], [1, 2, 0], [1, 9]), ([6], [2, 1, 0], [0, 0, 1]),
            ([6], [0, 2, 1], [0, 0, 2]),
        ])

    def test_the_first_route_among_those_for_the_train(self):
        # For a train of three: [0, 1], [0, 2], [0, 3], [1, 0, 2] 13, [1, 0, 3] 12, [2, 0, 3] 14.
        self.check_told(STAR + [train(3)], [
            ([14], [0, 0, 0], [1, 14]), ([13], [0, 0, 0], [0, 0, 5]), ([12], [0, 0, 0], [0, 0, 3]),
            ([8], [9, 0, 0], [0, 0, 3]), ([7], [0, 0, 9], [0, 0, 1]), ([6], [0, 9, 0], [0, 0, 2]),
        ])

    def test_a_shorter_trains_routes_have_places_of_their_own(self):
        # For a train of two stops: [0, 2], [1, 2]; for one of three: [0, 2], [0, 2, 1], [1, 2].
        calls = [stop(1), stop(9), stop(1, 0, 1), line(0, 2), line(1, 2)]
        self.check_told(calls + [train(2)], [([2], [0, 0], [0, 0, 1]), ([2], [0, 8], [1, 10])])
        self.check_told(calls + [train(3)], [([2], [0, 0], [0, 0, 1]), ([11], [0, 0], [1, 11]),
                                             ([2], [9, 0], [0, 0, 2])])
        self.check_told(calls + [train(2), train(3)], [([2, 20], [9, 0], [0, 0, 1]), ([10, 2], [9, 0], [0, 1, 2])])

    def test_the_first_train(self):
        self.check_told(ROW + [train(2), train(3), train(4)], [
            ([30, 70, 150], [0, 0, 0], [1, 250]), ([29, 69, 149], [0, 0, 0], [0, 0, 0]),
            ([30, 69, 149], [0, 0, 0], [0, 1, 1]), ([30, 70, 149], [0, 0, 0], [0, 2, 2]),
            ([30, 70, 0], [0, 0, 0], [0, 2, 0]), ([30, 29, 150], [0, 0, 0], [0, 1, 0]),
            ([0, 0, 0], [30, 40, 80], [1, 150]), ([150, 70, 30], [0, 0, 0], [0, 2, 1]),
        ])
        self.check_told(ROW + [train(4), train(2)], [
            ([150, 30], [0, 0, 0], [1, 180]), ([149, 29], [0, 0, 0], [0, 0, 2]), ([150, 29], [0, 0, 0], [0, 1, 0]),
        ])

    def test_the_longer_routes_are_none_of_a_shorter_trains(self):
        self.check_told(ROW + [train(2), train(4)], [([30, 150], [0, 0, 0], [1, 180])])

    def test_joints(self):
        calls = [stop(4, 0, 1), JOINT, JOINT, stop(5)] + chain(range(4)) + [train(2)]
        self.check_told(calls, [([0], [2, 3, 4], [1, 9]), ([0], [2, 3, 3], [0, 0, 0]), ([1], [2, 3, 3], [1, 9])])

    def test_no_trains(self):
        self.check_told(ROW, [([], [0, 0, 0], [1, 0]), ([], [1, 2, 3], [1, 6]), ([], [MOST] * 3, [1, 3 * MOST])])
        self.check_told([], [([], [], [1, 0])])
        check_refused(self, ROW, bound([0], [0, 0, 0]), -3)

    def test_no_lines_and_no_routes(self):
        self.check_told([stop(5, 0, 1), train(2), train(8)], [([0, 0], [], [1, 0]), ([7, 8], [], [1, 15])])
        self.check_told([stop(5), stop(5), line(0, 1), train(2)], [([0], [0], [1, 0])])

    def test_too_few_and_too_many(self):
        calls = ROW + [train(2), train(3)]
        self.assertEqual(answer_behind(calls, bound([30, 70], [0, 0, 0])), [1, 100])
        for values in ([], [30], [30, 70, 0], [0] * 1000):
            check_refused(self, calls, bound(values, [0, 0, 0]), -3)
        for prices in ([], [0, 0], [0, 0, 0, 0], [0] * 1000):
            check_refused(self, calls, bound([30, 70], prices), -3)
        check_refused(self, calls, bound([30, 70, 0], [0, 0]), -3)
        check_refused(self, calls, bound([0, 0, 0], [30, 70]), -3)
        check_refused(self, calls, bound([], []), -3)

    def test_one_that_is_not_from_0_to_1000000000(self):
        calls = ROW + [train(2), train(3)]
        for wrong in (-1, MOST + 1, LEAST_INT, GREATEST_INT):
            for values in ([wrong, 70], [30, wrong], [wrong, wrong]):
                check_refused(self, calls, bound(values, [0, 0, 0]), -3)
            for place in range(3):
                prices = [0, 0, 0]
                prices[place] = wrong
                check_refused(self, calls, bound([30, 70], prices), -3)

    def test_a_wrong_number_comes_before_a_route_that_is_worth_more(self):
        check_refused(self, ROW + [train(2)], bound([0], [0, 0, -1]), -3)
        check_refused(self, ROW + [train(2)], bound([0], [0, 0]), -3)

    def test_the_greatest_numbers(self):
        self.check_told(ROW + [train(2), train(3)], [([MOST, MOST], [MOST] * 3, [1, 5 * MOST])])
        pairs = [line(a, b) for a in range(40) for b in range(a + 1, min(a + 3, 40))]
        stops = [stop(1000000)] * 39 + [stop(1000000, 0, 1)]
        calls = stops + pairs + [line(0, 3), line(0, 4), line(0, 5)] + [train(2)] * 4
        self.check_told(calls, [([MOST] * 4, [MOST] * 80, [1, 84 * MOST])])

    def test_it_goes_by_the_lines_and_trains_that_there_are(self):
        calls = ROW + [train(2), train(4), unline(1), bound([30, 30], [0, 0]), scrap(0), bound([30], [0, 0])]
        calls += [bound([30, 30], [0, 0]), line(2, 1), bound([30], [0, 80, 40]), bound([30], [0, 81, 39])]
        told = each_answer(calls)[len(ROW) + 3:]
        self.assertEqual(told, [[1, 60], [0], [1, 30], [-3], [2], [1, 150], [0, 0, 1]])

    def test_no_run_is_worth_more_than_an_accepted_bound(self):
        rich_ends = [stop(50), stop(10, 0, 1), stop(50)] + chain([0, 1, 2]) + [train(3), train(2)]
        self.assertEqual(answers_behind(rich_ends, [RUN, bound([0, 0], [60, 60]), bound([0, 0], [60, 59])]),
                         [[120, 2, 0, 1, 2, 1, 2], [1, 120], [0, 0, 2]])

    def test_many_runs_are_no_reason_to_refuse(self):
        # 20 pairs of bases and three lines more: far more than 200000 runs of four trains.
        calls = [stop(1, 0, 1)] * 40 + [line(k, k + 1) for k in range(0, 40, 2)] + chain([1, 2]) + chain([3, 4, 7])
        calls += [train(2)] * 4
        self.assertEqual(answers_behind(calls, [RUN, bound([2] * 4, [0] * 23)]), [[-10], [1, 8]])


if __name__ == "__main__":
    unittest.main()
