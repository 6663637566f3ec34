"""Promises 0 to 6: node, line, set, unline, train, scrap, clear."""

import itertools
import unittest

from building import (
    CLEAR, GRAPH, GREATEST_INT, JOINT, LEAST_INT, chain, check_refused, count, each_answer, last_answer,
    line, node, scrap, set_stop, stop, train, unline,
)

NOT_BITS = (-1, 2, LEAST_INT, GREATEST_INT)
NOT_WORTHS = (-1, 1000001, LEAST_INT, GREATEST_INT)
NOT_LENGTHS = (1, 9, 0, -2, LEAST_INT, GREATEST_INT)

FORTY_STOPS = [stop()] * 40
EIGHTY_LINES = [line(a, b) for a, b in itertools.combinations(range(14), 2)][:80]
FULL_MAP = FORTY_STOPS + EIGHTY_LINES
FOUR_TRAINS = [train(2), train(3), train(4), train(5)]


class NodeTest(unittest.TestCase):
    def test_numbers_rise_from_0(self):
        self.assertEqual(each_answer([stop(5), JOINT, stop(7, 1, 1)]), [[0], [1], [2]])

    def test_every_kind_of_node_is_kept(self):
        told = [node(1, 0, 0, 0), node(1, 1000000, 0, 1), node(1, 1, 1, 0), node(1, 999999, 1, 1), JOINT]
        kept = [number for one in told for number in one[1:]]
        self.assertEqual(last_answer(told + [GRAPH]), [5] + kept + [0, 0])

    def test_wrong_stop_full_or_base(self):
        for wrong in NOT_BITS:
            check_refused(self, [stop(3)], node(wrong, 0, 0, 0), -2)
            check_refused(self, [stop(3)], node(1, 0, wrong, 0), -2)
            check_refused(self, [stop(3)], node(1, 0, 0, wrong), -2)
            check_refused(self, [stop(3)], node(0, 0, wrong, 0), -2)
            check_refused(self, [stop(3)], node(0, 0, 0, wrong), -2)

    def test_wrong_worth(self):
        for wrong in NOT_WORTHS:
            check_refused(self, [stop(3)], node(1, wrong, 0, 0), -2)
            check_refused(self, [stop(3)], node(0, wrong, 0, 0), -2)

    def test_a_joint_has_nothing(self):
        for wrong in ((1, 0, 0), (1000000, 0, 0), (0, 1, 0), (0, 0, 1), (0, 1, 1), (5, 1, 1)):
            check_refused(self, [stop(3)], node(0, *wrong), -2)

    def test_forty_nodes_and_no_more(self):
        told = each_answer(FORTY_STOPS)
        self.assertEqual(told, [[place] for place in range(40)])
        check_refused(self, FORTY_STOPS, stop(), -4)
        check_refused(self, FORTY_STOPS, JOINT, -4)
        check_refused(self, [JOINT] * 40, JOINT, -4)

    def test_wrong_numbers_come_before_the_full_map(self):
        for wrong in (node(2, 0, 0, 0), node(1, -1, 0, 0), node(0, 1, 0, 0), node(1, 0, 2, 0), node(1, 0, 0, 2)):
            check_refused(self, FORTY_STOPS, wrong, -2)

    def test_a_refused_node_takes_no_number(self):
        self.assertEqual(each_answer([stop(), node(2, 0, 0, 0), stop()]), [[0], [-2], [1]])


class LineTest(unittest.TestCase):
    three = [stop(1), JOINT, stop(2)]

    def test_numbers_rise_and_nodes_stay_as_told(self):
        calls = self.three + [line(2, 0), line(0, 1), line(2, 1), GRAPH]
        told = each_answer(calls)
        self.assertEqual(told[3:6], [[0], [1], [2]])
        self.assertEqual(told[6][13:], [3, 2, 0, 0, 1, 2, 1, 0])

    def test_no_such_node(self):
        for wrong in (3, -1, 40, LEAST_INT, GREATEST_INT):
            check_refused(self, self.three, line(wrong, 0), -1)
            check_refused(self, self.three, line(0, wrong), -1)
            check_refused(self, self.three, line(wrong, wrong), -1)

    def test_no_node_at_all(self):
        check_refused(self, [], line(0, 1), -1)

    def test_a_node_is_not_joined_with_itself(self):
        for place in range(3):
            check_refused(self, self.three, line(place, place), -2)

    def test_joined_already(self):
        before = self.three + [line(0, 1), line(2, 1)]
        for a, b in ((0, 1), (1, 0), (1, 2), (2, 1)):
            check_refused(self, before, line(a, b), -6)

    def test_joined_again_when_the_line_is_gone(self):
        calls = self.three + [line(0, 1), unline(0), line(1, 0)]
        self.assertEqual(last_answer(calls), [0])

    def test_eighty_lines_and_no_more(self):
        told = each_answer(FULL_MAP)
        self.assertEqual(told[40:], [[place] for place in range(80)])
        check_refused(self, FULL_MAP, line(20, 21), -4)

    def test_the_full_map_is_told_last(self):
        check_refused(self, FULL_MAP, line(20, 40), -1)
        check_refused(self, FULL_MAP, line(40, 20), -1)
        check_refused(self, FULL_MAP, line(20, 20), -2)
        check_refused(self, FULL_MAP, line(1, 0), -6)

    def test_room_again_when_a_line_is_gone(self):
        self.assertEqual(last_answer(FULL_MAP + [unline(5), line(20, 21)]), [79])


class SetTest(unittest.TestCase):
    two = [stop(4, 1, 0), JOINT, stop(6)]

    def test_worth_full_and_base_are_new(self):
        calls = self.two + [set_stop(0, 1000000, 0, 1), set_stop(2, 0, 1, 0), GRAPH]
        told = each_answer(calls)
        self.assertEqual(told[3:5], [[0], [0]])
        self.assertEqual(told[5], [3, 1, 1000000, 0, 1, 0, 0, 0, 0, 1, 0, 1, 0, 0, 0])

    def test_lines_and_trains_stay(self):
        calls = self.two + [line(2, 1), train(3), set_stop(2, 9, 1, 1), GRAPH]
        self.assertEqual(last_answer(calls), [3, 1, 4, 1, 0, 0, 0, 0, 0, 1, 9, 1, 1, 1, 2, 1, 1, 3])

    def test_no_such_node(self):
        for wrong in (3, -1, LEAST_INT, GREATEST_INT):
            check_refused(self, self.two, set_stop(wrong, 1, 0, 0), -1)
        check_refused(self, [], set_stop(0, 1, 0, 0), -1)

    def test_wrong_numbers(self):
        for wrong in NOT_WORTHS:
            check_refused(self, self.two, set_stop(0, wrong, 0, 0), -2)
        for wrong in NOT_BITS:
            check_refused(self, self.two, set_stop(0, 1, wrong, 0), -2)
            check_refused(self, self.two, set_stop(0, 1, 0, wrong), -2)

    def test_a_joint_is_not_set(self):
        check_refused(self, self.two, set_stop(1, 5, 1, 1), -3)
        check_refused(self, self.two, set_stop(1, 0, 0, 0), -3)

    def test_the_first_refusal_told_is_the_answer(self):
        check_refused(self, self.two, set_stop(3, -1, 2, 2), -1)
        check_refused(self, self.two, set_stop(1, -1, 0, 0), -2)
        check_refused(self, self.two, set_stop(1, 0, 2, 0), -2)
        check_refused(self, self.two, set_stop(1, 0, 0, 2), -2)


class UnlineTest(unittest.TestCase):
    before = [stop()] * 4 + chain([0, 1, 2, 3])

    def lines_behind(self, calls):
        return last_answer(self.before + calls + [GRAPH])[17:-1]

    def test_those_behind_it_move_up(self):
        self.assertEqual(each_answer(self.before + [unline(1)])[-1], [0])
        self.assertEqual(self.lines_behind([unline(0)]), [2, 1, 2, 2, 3])
        self.assertEqual(self.lines_behind([unline(1)]), [2, 0, 1, 2, 3])
        self.assertEqual(self.lines_behind([unline(2)]), [2, 0, 1, 1, 2])
        self.assertEqual(self.lines_behind([unline(1), unline(1)]), [1, 0, 1])

    def test_a_new_line_has_the_free_number(self):
        self.assertEqual(last_answer(self.before + [unline(0), line(0, 3)]), [2])

    def test_no_such_line(self):
        for wrong in (3, -1, 80, LEAST_INT, GREATEST_INT):
            check_refused(self, self.before, unline(wrong), -5)
        check_refused(self, [], unline(0), -5)

    def test_the_last_number_is_free_behind_it(self):
        check_refused(self, self.before + [unline(0)], unline(2), -5)


class TrainTest(unittest.TestCase):
    def test_numbers_rise_and_lengths_are_kept(self):
        calls = [train(8), train(2), train(5), train(2)]
        self.assertEqual(each_answer(calls), [[0], [1], [2], [3]])
        self.assertEqual(last_answer(calls + [GRAPH]), [0, 0, 4, 8, 2, 5, 2])

    def test_each_length_from_2_to_8(self):
        for length in range(2, 9):
            self.assertEqual(last_answer([train(length), GRAPH]), [0, 0, 1, length])

    def test_wrong_length(self):
        for wrong in NOT_LENGTHS:
            check_refused(self, [train(3)], train(wrong), -2)

    def test_four_trains_and_no_more(self):
        check_refused(self, FOUR_TRAINS, train(2), -4)

    def test_a_wrong_length_comes_before_the_fifth_train(self):
        for wrong in NOT_LENGTHS:
            check_refused(self, FOUR_TRAINS, train(wrong), -2)


class ScrapTest(unittest.TestCase):
    def trains_behind(self, calls):
        return last_answer(FOUR_TRAINS + calls + [GRAPH])[2:]

    def test_those_behind_it_move_up(self):
        self.assertEqual(last_answer(FOUR_TRAINS + [scrap(2)]), [0])
        self.assertEqual(self.trains_behind([scrap(0)]), [3, 3, 4, 5])
        self.assertEqual(self.trains_behind([scrap(1)]), [3, 2, 4, 5])
        self.assertEqual(self.trains_behind([scrap(3)]), [3, 2, 3, 4])
        self.assertEqual(self.trains_behind([scrap(1), scrap(1)]), [2, 2, 5])

    def test_room_again_for_a_train(self):
        self.assertEqual(last_answer(FOUR_TRAINS + [scrap(0), train(8)]), [3])

    def test_no_such_train(self):
        for wrong in (4, -1, LEAST_INT, GREATEST_INT):
            check_refused(self, FOUR_TRAINS, scrap(wrong), -7)
        check_refused(self, [], scrap(0), -7)
        check_refused(self, FOUR_TRAINS + [scrap(0)], scrap(3), -7)


class ClearTest(unittest.TestCase):
    def test_all_is_gone(self):
        told = each_answer(FULL_MAP + FOUR_TRAINS + [CLEAR, GRAPH])
        self.assertEqual(told[-2:], [[0], [0, 0, 0]])

    def test_numbers_begin_anew(self):
        calls = FULL_MAP + FOUR_TRAINS + [CLEAR, stop(), stop(), line(1, 0), train(2)]
        self.assertEqual(each_answer(calls)[-4:], [[0], [1], [0], [0]])

    def test_an_empty_map_may_be_cleared(self):
        self.assertEqual(each_answer([CLEAR, CLEAR, GRAPH]), [[0], [0], [0, 0, 0]])

    def test_no_route_is_left(self):
        calls = [stop(1, 0, 1), stop(), line(0, 1), CLEAR, count(2), stop(1, 0, 1), stop(), count(2)]
        self.assertEqual(each_answer(calls)[3:], [[0], [0], [0], [1], [0]])


if __name__ == "__main__":
    unittest.main()
