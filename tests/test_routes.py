"""Promises 8 and 9: count and route, and what a route is."""

import unittest

from building import (
    GREATEST_INT, JOINT, LEAST_INT, all_routes, chain, check_refused, count, each_answer, last_answer, line,
    route, scrap, set_stop, stop, train, unline,
)

BASE = stop(10, 0, 1)
FULL_BASE = stop(10, 1, 1)
SHUT = stop(10, 1, 0)
PLAIN = stop(10)


class CountTest(unittest.TestCase):
    def test_the_empty_map_has_no_route(self):
        self.assertEqual(each_answer([count(2), count(8)]), [[0], [0]])

    def test_one_stop_is_no_route(self):
        self.assertEqual(last_answer([BASE, count(8)]), [0])

    def test_a_chain_of_nine_bases(self):
        calls = [BASE] * 9 + chain(range(9))
        for length, many in ((2, 8), (3, 15), (4, 21), (5, 26), (6, 30), (7, 33), (8, 35)):
            self.assertEqual(last_answer(calls + [count(length)]), [many])

    def test_a_ring_is_gone_round_both_ways(self):
        calls = [BASE] * 4 + chain([0, 1, 2, 3, 0])
        self.assertEqual([last_answer(calls + [count(k)]) for k in (2, 3, 4, 8)], [[4], [8], [12], [12]])

    def test_it_follows_each_change(self):
        calls = [BASE, PLAIN, PLAIN] + chain([0, 1, 2]) + [count(3)]
        calls += [set_stop(0, 10, 0, 0), count(3), set_stop(2, 10, 0, 1), count(3), unline(0), count(3)]
        self.assertEqual(each_answer(calls)[5:], [[2], [0], [0], [0], [2], [0], [1]])

    def test_trains_have_no_part_in_it(self):
        calls = [BASE, PLAIN, PLAIN] + chain([0, 1, 2]) + [train(2), count(3), scrap(0), count(3)]
        self.assertEqual(each_answer(calls)[5:], [[0], [2], [0], [2]])

    def test_wrong_length(self):
        for wrong in (1, 9, 0, -1, LEAST_INT, GREATEST_INT):
            check_refused(self, [BASE, PLAIN, line(0, 1)], count(wrong), -2)


class RouteTest(unittest.TestCase):
    def test_worth_stops_and_nodes(self):
        calls = [stop(7, 0, 1), stop(20), JOINT, stop(300)] + chain([0, 1, 2, 3])
        told = each_answer(calls + [route(3, 0), route(3, 1), route(2, 0)])[len(calls):]
        self.assertEqual(told, [[27, 2, 2, 0, 1], [327, 3, 4, 0, 1, 2, 3], [27, 2, 2, 0, 1]])

    def test_least_and_greatest_worth(self):
        calls = [stop(0, 0, 1)] * 8 + chain(range(8))
        self.assertEqual(last_answer(calls + [route(8, 6)]), [0, 8, 8, 0, 1, 2, 3, 4, 5, 6, 7])
        calls = [stop(1000000, 0, 1)] * 8 + chain(range(8))
        self.assertEqual(last_answer(calls + [route(8, 6)]), [8000000, 8, 8, 0, 1, 2, 3, 4, 5, 6, 7])

    def test_no_route_at_that_place(self):
        calls = [BASE, PLAIN, PLAIN] + chain([0, 1, 2])
        self.assertEqual(last_answer(calls + [route(3, 1)]), [30, 3, 3, 0, 1, 2])
        for wrong in (2, 3, -1, -2, LEAST_INT, GREATEST_INT):
            check_refused(self, calls, route(3, wrong), -8)
        check_refused(self, calls, route(2, 1), -8)
        check_refused(self, [], route(2, 0), -8)

    def test_wrong_length_comes_first(self):
        for wrong in (1, 9, 0, -1, LEAST_INT, GREATEST_INT):
            check_refused(self, [BASE, PLAIN, line(0, 1)], route(wrong, 0), -2)
            check_refused(self, [BASE, PLAIN, line(0, 1)], route(wrong, 9), -2)


class OrderTest(unittest.TestCase):
    def test_by_the_first_node_that_differs(self):
        calls = [BASE] * 4 + [line(3, 2), line(3, 0), line(2, 1), line(1, 0)]
        wanted = [
            [0, 1], [0, 1, 2], [0, 1, 2, 3], [0, 3], [0, 3, 2], [0, 3, 2, 1],
            [1, 0, 3], [1, 0, 3, 2], [1, 2], [1, 2, 3], [2, 1, 0, 3], [2, 3],
        ]
        self.assertEqual(all_routes(calls, 8), wanted)

    def test_numbers_of_two_digits_stand_behind_those_of_one(self):
        calls = [BASE] * 12 + [line(0, 10), line(0, 9), line(0, 2), line(0, 11)]
        self.assertEqual(all_routes(calls, 2), [[0, 2], [0, 9], [0, 10], [0, 11]])

    def test_the_lesser_end_comes_first(self):
        calls = [JOINT, PLAIN, BASE, line(2, 0), line(0, 1)]
        self.assertEqual(all_routes(calls, 2), [[1, 0, 2]])

    def test_the_lesser_end_of_a_path_over_a_lesser_stop(self):
        calls = [BASE, PLAIN, PLAIN, line(2, 0), line(0, 1)]
        self.assertEqual(all_routes(calls, 3), [[0, 1], [0, 2], [1, 0, 2]])


class JointTest(unittest.TestCase):
    def test_no_route_ends_at_a_joint(self):
        calls = [JOINT, BASE, PLAIN, JOINT] + chain([0, 1, 2, 3])
        self.assertEqual(all_routes(calls, 8), [[1, 2]])

    def test_joints_are_not_counted_as_stops(self):
        calls = [stop(3, 0, 1)] + [JOINT] * 38 + [stop(4)] + chain(range(40))
        self.assertEqual(last_answer(calls + [route(2, 0)]), [7, 2, 40] + list(range(40)))

    def test_no_joint_is_passed_twice(self):
        calls = [BASE, PLAIN, PLAIN, JOINT, line(3, 0), line(3, 1), line(3, 2)]
        self.assertEqual(all_routes(calls, 3), [[0, 3, 1], [0, 3, 2]])

    def test_two_ways_round_are_two_routes(self):
        calls = [BASE, JOINT, JOINT, PLAIN] + chain([0, 1, 3, 2, 0])
        self.assertEqual(all_routes(calls, 2), [[0, 1, 3], [0, 2, 3]])

    def test_a_joint_is_no_base(self):
        self.assertEqual(all_routes([PLAIN, JOINT, PLAIN] + chain([0, 1, 2]), 2), [])


class ShutTest(unittest.TestCase):
    def test_a_route_may_end_at_a_shut_stop_but_not_pass_it(self):
        calls = [BASE, SHUT, BASE] + chain([0, 1, 2])
        self.assertEqual(all_routes(calls, 3), [[0, 1], [1, 2]])

    def test_a_route_may_begin_at_a_shut_stop(self):
        calls = [SHUT, BASE, PLAIN] + chain([0, 1, 2])
        self.assertEqual(all_routes(calls, 3), [[0, 1], [0, 1, 2], [1, 2]])

    def test_both_ends_may_be_shut(self):
        calls = [SHUT, BASE, SHUT] + chain([0, 1, 2])
        self.assertEqual(all_routes(calls, 3), [[0, 1], [0, 1, 2], [1, 2]])

    def test_a_filled_stop_with_a_base_is_passed(self):
        calls = [PLAIN, FULL_BASE, PLAIN] + chain([0, 1, 2])
        self.assertEqual(all_routes(calls, 3), [[0, 1], [0, 1, 2], [1, 2]])

    def test_none_goes_through_a_shut_stop_over_joints(self):
        calls = [BASE, JOINT, SHUT, JOINT, PLAIN] + chain([0, 1, 2, 3, 4])
        self.assertEqual(all_routes(calls, 8), [[0, 1, 2]])

    def test_shut_and_not_shut_again(self):
        calls = [BASE, PLAIN, PLAIN] + chain([0, 1, 2])
        self.assertEqual(all_routes(calls + [set_stop(1, 10, 1, 0)], 3), [[0, 1]])
        again = [set_stop(1, 10, 1, 0), set_stop(1, 10, 0, 0)]
        self.assertEqual(all_routes(calls + again, 3), [[0, 1], [0, 1, 2]])


class BaseTest(unittest.TestCase):
    def test_none_without_a_base(self):
        self.assertEqual(all_routes([PLAIN] * 4 + chain([0, 1, 2, 3]), 8), [])

    def test_a_base_at_the_last_node_is_enough(self):
        calls = [PLAIN, PLAIN, BASE] + chain([0, 1, 2])
        self.assertEqual(all_routes(calls, 3), [[0, 1, 2], [1, 2]])

    def test_a_base_between_the_ends_is_enough(self):
        calls = [PLAIN, BASE, PLAIN] + chain([0, 1, 2])
        self.assertEqual(all_routes(calls, 3), [[0, 1], [0, 1, 2], [1, 2]])

    def test_a_base_that_is_not_on_it_is_none(self):
        calls = [BASE, PLAIN, PLAIN, PLAIN] + chain([0, 1, 2, 3])
        self.assertEqual(all_routes(calls, 2), [[0, 1]])


if __name__ == "__main__":
    unittest.main()
