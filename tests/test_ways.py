"""Refusal -9: more than 4000 ways of the length."""

import unittest

from building import (
    GREEDY, JOINT, RUN, answer_behind, best, bound, chain, check_refused, count, group, groups, last_answer, line,
    more, route, scrap, set_stop, stop, train, without,
)

# Groups in which each stop is joined with each other. With at most 4 stops a group of n has
# n + n(n-1) + n(n-1)(n-2) + n(n-1)(n-2)(n-3) ways:
# 9: 3609, 5: 205, 4: 64, 3: 15, 2: 4, 1: 1.
GROUPS = (9, 5, 4, 4, 3, 3, 3, 2, 2, 2, 1)
FIRST_OF_A_THREE = 9 + 5 + 4 + 4
FIRST_OF_A_TWO = FIRST_OF_A_THREE + 9
LONE_STOP = 37


WAYS_4000 = groups(GROUPS)
WAYS_4001 = WAYS_4000 + [stop()]
# Each way of two nodes or more is a path of bases; one of its two directions is the route.
ROUTES = (4000 - 38) // 2


class WaysTest(unittest.TestCase):
    def test_4000_ways_are_not_too_many(self):
        self.assertEqual(last_answer(WAYS_4000 + [count(4)]), [ROUTES])
        self.assertEqual(last_answer(WAYS_4000 + [route(4, ROUTES - 1)]), [2, 2, 2, 35, 36])
        check_refused(self, WAYS_4000, route(4, ROUTES), -8)

    def test_4001_ways_are_too_many(self):
        check_refused(self, WAYS_4001, count(4), -9)
        check_refused(self, WAYS_4001, route(4, 0), -9)

    def test_far_more_ways_are_too_many(self):
        check_refused(self, WAYS_4000, count(8), -9)
        check_refused(self, group(0, 13), count(8), -9)

    def test_fewer_stops_make_fewer_ways(self):
        # 70 lines make 140 ways of two stops; there are 504 + 60 + 24 + 24 + 6 + 6 + 6 of three.
        self.assertEqual(last_answer(WAYS_4001 + [count(3)]), [(140 + 630) // 2])
        self.assertEqual(last_answer(WAYS_4001 + [count(2)]), [70])

    def test_a_way_needs_no_base(self):
        self.assertEqual(last_answer(groups(GROUPS, 0) + [count(4)]), [0])
        check_refused(self, groups(GROUPS, 0) + [stop()], count(4), -9)
        check_refused(self, groups(GROUPS, 0) + [stop()], route(4, 0), -9)

    def test_a_lone_joint_is_no_way(self):
        self.assertEqual(last_answer(WAYS_4000 + [JOINT, count(4)]), [ROUTES])

    def test_a_way_may_end_at_a_joint(self):
        check_refused(self, WAYS_4000 + [JOINT, line(38, LONE_STOP)], count(4), -9)

    def test_each_joint_behind_a_stop_makes_a_way_more(self):
        calls = groups((9, 5, 4, 4, 3, 3, 3, 2, 2, 1)) + [JOINT] * 4 + chain([35, 36, 37, 38, 39])
        self.assertEqual(last_answer(calls + [count(4)]), [(3996 - 36) // 2])
        check_refused(self, calls + [line(37, 39)], count(4), -9)

    def test_a_way_with_all_its_stops_goes_on_over_a_joint(self):
        # 16 of the 64 ways of a group of four end at its first stop, 6 of these with four stops.
        calls = groups((9, 5, 4, 4, 3, 3, 2, 2, 2)) + [JOINT, line(34, 9 + 5)]
        self.assertEqual(last_answer(calls + [count(4)]), [(3984 - 34) // 2])
        check_refused(self, calls + [stop()], count(4), -9)

    def test_a_way_may_end_at_a_shut_stop_but_not_pass_it(self):
        # Of the six ways of a group of three over all its nodes two go through the shut stop.
        shut = [set_stop(FIRST_OF_A_THREE, 1, 1, 0)]
        self.assertEqual(last_answer(WAYS_4001 + [stop()] + shut + [count(4)]), [ROUTES - 1])
        check_refused(self, WAYS_4001 + [line(38, LONE_STOP)] + shut, count(4), -9)

    def test_a_shut_stop_at_an_end_is_on_as_many_ways(self):
        shut = [set_stop(FIRST_OF_A_TWO, 1, 1, 0)]
        self.assertEqual(last_answer(WAYS_4000 + shut + [count(4)]), [ROUTES])
        check_refused(self, WAYS_4001 + shut, count(4), -9)

    def test_a_filled_stop_with_a_base_is_passed(self):
        filled = [set_stop(FIRST_OF_A_THREE, 1, 1, 1)]
        check_refused(self, WAYS_4001 + filled, count(4), -9)

    def test_wrong_length_comes_before_too_many_ways(self):
        for wrong in (1, 9):
            check_refused(self, WAYS_4001, count(wrong), -2)
            check_refused(self, WAYS_4001, route(wrong, 0), -2)

    def test_too_many_ways_come_before_a_wrong_place(self):
        for wrong in (-1, 4000, 2147483647):
            check_refused(self, WAYS_4001, route(4, wrong), -9)


class BestTest(unittest.TestCase):
    def test_4000_ways_and_one_more(self):
        self.assertEqual(answer_behind(WAYS_4000, best(4)), [4, 4, 4, 0, 1, 2, 3])
        check_refused(self, WAYS_4001, best(4), -9)
        self.assertEqual(answer_behind(WAYS_4001, best(3)), [3, 3, 3, 0, 1, 2])

    def test_too_many_ways_without_a_route(self):
        check_refused(self, groups(GROUPS, 0) + [stop()], best(4), -9)

    def test_wrong_length_comes_before_too_many_ways(self):
        for wrong in (1, 9):
            check_refused(self, WAYS_4001, best(wrong), -2)


class TrainsTest(unittest.TestCase):
    """The calls that look at all trains ask for the ways of the longest one's length."""

    lines = sum(1 for call in WAYS_4000 if call[0] == 1)
    last_of_the_lines = lines - 1
    free = [0] * lines

    def test_run(self):
        self.assertEqual(answer_behind(WAYS_4000 + [train(4)], RUN), [4, 4, 0, 1, 2, 3])
        check_refused(self, WAYS_4001 + [train(4)], RUN, -9)

    def test_greedy(self):
        self.assertEqual(answer_behind(WAYS_4000 + [train(4)], GREEDY), [4])
        check_refused(self, WAYS_4001 + [train(4)], GREEDY, -9)

    def test_bound(self):
        self.assertEqual(answer_behind(WAYS_4000 + [train(4)], bound([4], self.free)), [1, 4])
        self.assertEqual(answer_behind(WAYS_4000 + [train(4)], bound([3], self.free)), [0, 0, 2])
        check_refused(self, WAYS_4001 + [train(4)], bound([4], self.free), -9)

    def test_a_bound_that_does_not_fit_comes_before_too_many_ways(self):
        for wrong in (bound([], self.free), bound([4, 4], self.free), bound([4], self.free[1:]),
                      bound([4], [0] + self.free), bound([-1], self.free), bound([4], self.free[1:] + [-1])):
            check_refused(self, WAYS_4001 + [train(4)], wrong, -3)

    def test_the_longest_train_wherever_it_stands(self):
        for lengths in ((4, 2, 3), (2, 4, 3), (2, 3, 4), (2, 2, 2, 4)):
            calls = WAYS_4001 + [train(length) for length in lengths]
            check_refused(self, calls, RUN, -9)
            check_refused(self, calls, GREEDY, -9)
            check_refused(self, calls, bound([9] * len(lengths), self.free), -9)
            check_refused(self, calls, more(2), -9)

    def test_shorter_trains_have_few_ways(self):
        calls = WAYS_4001 + [train(2), train(3)]
        # The longer one runs within the first group; so does the other one, beside it.
        self.assertEqual(answer_behind(calls, RUN), [5, 2, 0, 1, 3, 0, 2, 1])
        self.assertEqual(answer_behind(calls, GREEDY), [5])
        self.assertEqual(answer_behind(calls, bound([2, 3], self.free)), [1, 5])
        self.assertEqual(answer_behind(calls, without(0)), [5])
        self.assertEqual(answer_behind(WAYS_4001 + [train(2)], more(3)), [5])

    def test_a_scrapped_train_has_no_part_in_it(self):
        calls = WAYS_4001 + [train(4), train(2), scrap(0)]
        self.assertEqual(answer_behind(calls, RUN), [2, 2, 0, 1])

    def test_without_trains_there_are_none(self):
        self.assertEqual(answer_behind(WAYS_4001, RUN), [0])
        self.assertEqual(answer_behind(WAYS_4001, GREEDY), [0])
        self.assertEqual(answer_behind(WAYS_4001, without(0)), [0])
        self.assertEqual(answer_behind(WAYS_4001, bound([], [1] * self.lines)), [1, self.lines])

    def test_too_many_ways_come_before_too_many_runs(self):
        calls = WAYS_4000 + [train(4), train(4)]
        check_refused(self, calls, RUN, -10)
        check_refused(self, calls + [stop()], RUN, -9)
        check_refused(self, calls + [stop()], more(2), -9)
        check_refused(self, calls + [stop()] * 2 + [line(38, 39)], without(self.lines), -9)

    def test_without_asks_the_graph_without_the_line(self):
        # A pair's line makes two ways: here there are 4002, then 4003.
        calls = WAYS_4000 + [stop(1, 0, 1)] * 2 + [train(4)]
        check_refused(self, calls, RUN, -9)
        self.assertEqual(answer_behind(calls, without(self.last_of_the_lines)), [4])
        calls = WAYS_4001 + [line(38, LONE_STOP), train(4)]
        check_refused(self, calls, without(self.last_of_the_lines), -9)
        check_refused(self, calls, without(self.lines), -9)

    def test_no_such_line_comes_before_too_many_ways(self):
        for wrong in (self.lines, -1):
            check_refused(self, WAYS_4001 + [train(4)], without(wrong), -5)

    def test_more_asks_with_the_train(self):
        self.assertEqual(answer_behind(WAYS_4000, more(4)), [4])
        check_refused(self, WAYS_4001, more(4), -9)
        check_refused(self, WAYS_4001 + [train(2)], more(4), -9)
        self.assertEqual(answer_behind(WAYS_4001 + [train(2)], more(2)), [4])

    def test_a_wrong_length_comes_before_too_many_ways(self):
        for wrong in (1, 9):
            check_refused(self, WAYS_4001 + [train(4)], more(wrong), -2)


if __name__ == "__main__":
    unittest.main()
