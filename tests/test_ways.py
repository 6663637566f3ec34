"""Refusal -9: more than 4000 ways of the length."""

import itertools
import unittest

from building import JOINT, chain, check_refused, count, last_answer, line, route, set_stop, stop

# Groups in which each stop is joined with each other. With at most 4 stops a group of n has
# n + n(n-1) + n(n-1)(n-2) + n(n-1)(n-2)(n-3) ways:
# 9: 3609, 5: 205, 4: 64, 3: 15, 2: 4, 1: 1.
GROUPS = (9, 5, 4, 4, 3, 3, 3, 2, 2, 2, 1)
FIRST_OF_A_THREE = 9 + 5 + 4 + 4
FIRST_OF_A_TWO = FIRST_OF_A_THREE + 9
LONE_STOP = 37


def group(first, many, base):
    stops = [stop(1, 0, base)] * many
    return stops + [line(a, b) for a, b in itertools.combinations(range(first, first + many), 2)]


def all_groups(base, groups=GROUPS):
    calls = []
    first = 0
    for many in groups:
        calls += group(first, many, base)
        first += many
    return calls


WAYS_4000 = all_groups(1)
WAYS_4001 = WAYS_4000 + [stop()]
# Each way of two nodes or more is a path of bases; one of its two directions is the route.
ROUTES = (4000 - 38) // 2


class WaysTest(unittest.TestCase):
    def test_4000_ways_are_not_too_many(self):
        self.assertEqual(last_answer(WAYS_4000 + [count(4)]), [ROUTES])
        self.assertEqual(last_answer(WAYS_4000 + [route(4, ROUTES - 1)]), [2, 2, 2, 35, 36])
        check_refused(self, WAYS_4000, route(4, ROUTES), -8)

    def test_4001_ways_are_too_many(self):
        check_refused(self, WAYS_4001, count(4), -9)
        check_refused(self, WAYS_4001, route(4, 0), -9)

    def test_far_more_ways_are_too_many(self):
        check_refused(self, WAYS_4000, count(8), -9)
        check_refused(self, [stop(1, 0, 1)] * 14 + group(0, 13, 1)[13:], count(8), -9)

    def test_fewer_stops_make_fewer_ways(self):
        # 70 lines make 140 ways of two stops; there are 504 + 60 + 24 + 24 + 6 + 6 + 6 of three.
        self.assertEqual(last_answer(WAYS_4001 + [count(3)]), [(140 + 630) // 2])
        self.assertEqual(last_answer(WAYS_4001 + [count(2)]), [70])

    def test_a_way_needs_no_base(self):
        self.assertEqual(last_answer(all_groups(0) + [count(4)]), [0])
        check_refused(self, all_groups(0) + [stop()], count(4), -9)
        check_refused(self, all_groups(0) + [stop()], route(4, 0), -9)

    def test_a_lone_joint_is_no_way(self):
        self.assertEqual(last_answer(WAYS_4000 + [JOINT, count(4)]), [ROUTES])

    def test_a_way_may_end_at_a_joint(self):
        check_refused(self, WAYS_4000 + [JOINT, line(38, LONE_STOP)], count(4), -9)

    def test_each_joint_behind_a_stop_makes_a_way_more(self):
        calls = all_groups(1, (9, 5, 4, 4, 3, 3, 3, 2, 2, 1)) + [JOINT] * 4 + chain([35, 36, 37, 38, 39])
        self.assertEqual(last_answer(calls + [count(4)]), [(3996 - 36) // 2])
        check_refused(self, calls + [line(37, 39)], count(4), -9)

    def test_a_way_with_all_its_stops_goes_on_over_a_joint(self):
        # 16 of the 64 ways of a group of four end at its first stop, 6 of these with four stops.
        calls = all_groups(1, (9, 5, 4, 4, 3, 3, 2, 2, 2)) + [JOINT, line(34, 9 + 5)]
        self.assertEqual(last_answer(calls + [count(4)]), [(3984 - 34) // 2])
        check_refused(self, calls + [stop()], count(4), -9)

    def test_a_way_may_end_at_a_shut_stop_but_not_pass_it(self):
        # Of the six ways of a group of three over all its nodes two go through the shut stop.
        shut = [set_stop(FIRST_OF_A_THREE, 1, 1, 0)]
        self.assertEqual(last_answer(WAYS_4001 + [stop()] + shut + [count(4)]), [ROUTES - 1])
        check_refused(self, WAYS_4001 + [line(38, LONE_STOP)] + shut, count(4), -9)

    def test_a_shut_stop_at_an_end_is_on_as_many_ways(self):
        shut = [set_stop(FIRST_OF_A_TWO, 1, 1, 0)]
        self.assertEqual(last_answer(WAYS_4000 + shut + [count(4)]), [ROUTES])
        check_refused(self, WAYS_4001 + shut, count(4), -9)

    def test_a_filled_stop_with_a_base_is_passed(self):
        filled = [set_stop(FIRST_OF_A_THREE, 1, 1, 1)]
        check_refused(self, WAYS_4001 + filled, count(4), -9)

    def test_wrong_length_comes_before_too_many_ways(self):
        for wrong in (1, 9):
            check_refused(self, WAYS_4001, count(wrong), -2)
            check_refused(self, WAYS_4001, route(wrong, 0), -2)

    def test_too_many_ways_come_before_a_wrong_place(self):
        for wrong in (-1, 4000, 2147483647):
            check_refused(self, WAYS_4001, route(4, wrong), -9)


if __name__ == "__main__":
    unittest.main()
