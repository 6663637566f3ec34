"""Promises 12 and 13: path and check."""

import unittest

from building import (
    GREATEST_INT, JOINT, LEAST_INT, answer_behind, answers_behind, chain, check, check_refused, check_row,
    each_answer, group, line, path, scrap, set_stop, stop, train, unline,
)

# 0 base, 1 stop, 2 joint, 3 shut stop, 4 stop, 5 filled stop with a base, 6 joint, in a row; 7 alone.
MIXED = [
    stop(1, 0, 1), stop(20), JOINT, stop(300, 1, 0), stop(4000), stop(50000, 1, 1), JOINT, stop(600000, 0, 1),
] + chain(range(7))


class PathTest(unittest.TestCase):
    def check_paths(self, wanted, lists, calls=MIXED):
        for nodes, told in zip(lists, answers_behind(calls, [path(nodes) for nodes in lists])):
            self.assertEqual(told, wanted, nodes)

    def test_right_ones(self):
        self.check_paths([0, 2, 21], [[0, 1], [1, 0]])
        self.check_paths([0, 3, 321], [[0, 1, 2, 3], [3, 2, 1, 0]])
        self.check_paths([0, 2, 54000], [[4, 5], [5, 4]])
        self.check_paths([0, 3, 54300], [[3, 4, 5], [5, 4, 3]])

    def test_a_filled_stop_with_a_base_is_passed(self):
        self.check_paths([0, 3, 11], [[0, 1, 2], [2, 1, 0]], [stop(2), stop(4, 1, 1), stop(5)] + chain(range(3)))

    def test_the_longest_one(self):
        calls = [stop(1000000)] * 39 + [stop(1000000, 0, 1)] + chain(range(40))
        self.check_paths([0, 40, 40000000], [list(range(40)), list(range(39, -1, -1))], calls)
        calls = [stop(3, 0, 1)] + [JOINT] * 38 + [stop(4)] + chain(range(40))
        self.check_paths([0, 2, 7], [list(range(40)), list(range(39, -1, -1))], calls)

    def test_worth_0(self):
        self.check_paths([0, 2, 0], [[0, 1], [1, 0]], [stop(0, 0, 1), stop(0), line(0, 1)])

    def test_1_fewer_than_two_nodes(self):
        self.check_paths([1], [[], [0], [2], [3], [7]])
        self.check_paths([1], [[], [0]], [])

    def test_2_no_such_node(self):
        self.check_paths([2], [[0, 8], [8, 0], [0, 1, 8], [8, 9], [0, GREATEST_INT], [0, 1, 2, 40]])
        self.check_paths([2], [[0, 1]], [])

    def test_2_below_0_is_ahead_of_all_else(self):
        self.check_paths([2], [[-1], [LEAST_INT], [0, -1], [-1, 0], [0, 1, -1], [-1, -1]])
        self.check_paths([2], [[-1], [-1, 0]], [])

    def test_3_not_joined(self):
        self.check_paths([3], [[0, 7], [0, 2], [1, 0, 2], [0, 1, 3], [5, 4, 7], [0, 0], [7, 7]])

    def test_4_a_node_twice(self):
        self.check_paths([4], [[0, 1, 0], [1, 0, 1], [0, 1, 2, 1], [1, 2, 1, 0], [4, 5, 4]])
        self.check_paths([4], [[0, 1, 2, 0], [0, 1, 2, 0, 1], [1, 2, 0, 1]], group(0, 3))

    def test_5_an_end_is_no_stop(self):
        self.check_paths([5], [[0, 1, 2], [2, 1, 0], [5, 6], [6, 5], [4, 5, 6]])
        self.check_paths([5], [[0, 1]], [JOINT, JOINT, line(0, 1)])

    def test_6_a_shut_stop_between(self):
        self.check_paths([6], [[0, 1, 2, 3, 4], [4, 3, 2, 1, 0], [1, 2, 3, 4, 5]])

    def test_7_no_base(self):
        self.check_paths([7], [[1, 2, 3], [3, 2, 1], [3, 4], [4, 3]])

    def test_of_two_the_first(self):
        self.check_paths([1], [[8], [2], [40], [GREATEST_INT]])
        self.check_paths([2], [[0, 7, 8], [8, 8], [0, 1, 0, 8], [2, 8], [7, 0, 40]])
        self.check_paths([3], [[0, 7, 0], [0, 0], [2, 0], [0, 1, 0, 7], [2, 4], [3, 1], [1, 4, 3, 2]])
        self.check_paths([4], [[2, 1, 2], [3, 4, 3], [2, 3, 2], [1, 2, 3, 2, 1], [6, 5, 6]])
        self.check_paths([5], [[2, 3, 4], [4, 3, 2], [1, 2], [3, 2], [2, 3], [1, 2, 3, 4, 5, 6]])
        self.check_paths([6], [[1, 2, 3, 4], [4, 3, 2, 1]])

    def test_below_0_comes_before_each_of_them(self):
        self.check_paths([2], [[-1], [0, 7, -1], [0, 1, 0, -1], [2, -1], [1, 2, 3, 4, -1], [3, 4, -1], [8, -1]])

    def test_1000_numbers(self):
        self.check_paths([4], [[0, 1] * 500, [1, 0] * 500])
        self.check_paths([3], [[0] * 1000, [0, 1] * 499 + [0, 2], [0, 2] + [0, 1] * 499])
        self.check_paths([2], [[0, 1] * 499 + [0, 8], [0, 1] * 499 + [0, -1], [-1] * 1000, [40] * 1000])

    def test_the_map_alone_says_what_is_right(self):
        calls = MIXED + [path([1, 2, 3, 4]), set_stop(3, 300, 0, 0), path([1, 2, 3, 4])]
        calls += [set_stop(4, 4000, 0, 1), path([1, 2, 3, 4]), unline(2), path([1, 2, 3, 4])]
        calls += [line(3, 2), path([1, 2, 3, 4])]
        told = each_answer(calls)[len(MIXED):]
        self.assertEqual(told[::2], [[6], [7], [0, 3, 4320], [3], [0, 3, 4320]])

    def test_trains_have_no_part_in_it(self):
        self.check_paths([0, 3, 321], [[0, 1, 2, 3]], MIXED + [train(2)])


# Two rings with one stop in common; lines 0 to 3 and 4 to 7.
RINGS = [stop(1, 0, 1), stop(20), stop(300), stop(4000), stop(50000), stop(600000), stop(7)]
RINGS += chain([0, 1, 2, 3, 0]) + chain([0, 4, 5, 6, 0])


class CheckTest(unittest.TestCase):
    two = RINGS + [train(3), train(2)]
    four = RINGS + [train(2), train(3), train(4), train(8)]

    def check_told(self, calls, pairs):
        for (call, wanted), told in zip(pairs, answers_behind(calls, [call for call, wanted in pairs])):
            self.assertEqual(told, wanted, call)

    def test_all_right(self):
        self.check_told(self.two, [
            (check([0, 1, 2], [0, 3]), [0, 321 + 4001]),
            (check([2, 1, 0], [3, 0]), [0, 321 + 4001]),
            (check([1, 0, 3], [4, 0]), [0, 4021 + 50001]),
            (check([0, 1], [0, 4]), [0, 21 + 50001]),
        ])
        self.check_told(self.four, [(check([0, 1], [3, 0, 4], [0, 6], [3, 2, 1]), [1, 3, 7])])
        self.check_told(self.four, [(check([0, 1], [3, 0, 4], [0, 6], []), [0, 21 + 54001 + 1 + 7])])

    def test_a_train_that_does_not_run(self):
        self.check_told(self.two, [
            (check([], []), [0, 0]), (check([], [0, 1]), [0, 21]), (check([1, 0], []), [0, 21]),
            (check_row([0, 0]), [0, 0]), (check_row([0, 2, 0, 1]), [0, 21]),
        ])

    def test_no_trains(self):
        self.assertEqual(answer_behind(RINGS, check_row([])), [0, 0])
        self.assertEqual(answer_behind([], check_row([])), [0, 0])
        for row in ([0], [2, 0, 1], [-1], [0, 0], [0] * 1000):
            check_refused(self, RINGS, check_row(row), -3)

    def test_the_row_is_too_short(self):
        for row in ([], [0], [2], [2, 0], [2, 0, 1], [3, 0, 1, 2], [0, 1], [0, 2, 0], [2, 0, 1, 2, 0],
                    [4, 0, 1, 2], [GREATEST_INT], [0, GREATEST_INT, 0, 1], [1000, 0, 1]):
            check_refused(self, self.two, check_row(row), -3)

    def test_the_row_is_too_long(self):
        for row in ([0, 0, 0], [2, 0, 1, 0, 0], [0, 2, 0, 1, 0], [0, 2, 0, 1, 2, 0, 3], [2, 0, 1, 2, 0, 3, 7],
                    [0, 0] + [0] * 998):
            check_refused(self, self.two, check_row(row), -3)

    def test_a_count_or_a_node_below_0(self):
        for row in ([-1, 0], [0, -1], [LEAST_INT, 0], [2, 0, -1, 0], [2, -1, 0, 0], [0, 2, 0, -1], [0, 1, -1],
                    [2, 0, 1, -1], [2, 0, 1, -2, 0, 1], [-1], [-1, -1], [1, -1, 0], [0, 0, -1]):
            check_refused(self, self.two, check_row(row), -3)

    def test_a_wrong_row_comes_before_a_wrong_path(self):
        for row in ([1, 0, 0, 0], [1, 0], [2, 0, 40, 3, 0, 1], [2, 1, 2, 2, 1, -1], [2, 0, 1, 2, 0, 1, 0]):
            check_refused(self, self.two, check_row(row), -3)

    def test_each_wrong_path_of_the_first_and_of_a_later_train(self):
        calls = MIXED + [line(7, 4), line(0, 7)]
        wrong = {
            1: [0], 2: [0, 8], 3: [0, 4], 4: [0, 1, 0], 5: [0, 1, 2], 6: [1, 2, 3, 4], 7: [3, 4],
            8: [1, 0, 7, 4],
        }
        for what, nodes in wrong.items():
            self.check_told(calls + [train(3), train(2), train(3)], [
                (check(nodes, [], []), [1, 0, what]),
                (check(nodes, [0, 7], [0]), [1, 0, what]),
                (check([], nodes, []), [1, 1, what]),
                (check([4, 5], nodes, nodes), [1, 1, what]),
                (check([], [], nodes), [1, 2, what]),
                (check([4, 5], [1, 0], nodes), [1, 2, what]),
            ])

    def test_8_is_told_by_each_trains_length(self):
        rows = [stop(1, 0, 1)] * 9 + chain(range(9))
        for length in range(2, 9):
            self.check_told(rows + [train(length)], [
                (check(range(length)), [0, length]),
                (check(range(length + 1)), [1, 0, 8]),
                (check(range(length, -1, -1)), [1, 0, 8]),
            ])
        self.check_told(rows + [train(3), train(2)], [(check([0, 1, 2], [3, 4, 5]), [1, 1, 8])])

    def test_8_does_not_count_joints(self):
        calls = [stop(3, 0, 1)] + [JOINT] * 38 + [stop(4)] + chain(range(40)) + [train(2)]
        self.check_told(calls, [(check(range(40)), [0, 7])])

    def test_8_is_told_behind_all_else(self):
        self.check_told([stop(1)] * 4 + chain(range(4)) + [train(2)], [(check(range(4)), [1, 0, 7])])
        self.check_told([stop(1, 0, 1)] * 4 + chain(range(4)) + [set_stop(1, 1, 1, 0), train(2)],
                        [(check(range(4)), [1, 0, 6])])

    def test_a_line_in_common(self):
        self.check_told(self.two, [
            (check([0, 1, 2], [0, 1]), [2, 0, 1]),
            (check([0, 1, 2], [1, 0]), [2, 0, 1]),
            (check([2, 1, 0], [0, 1]), [2, 0, 1]),
            (check([1, 0, 3], [0, 3]), [2, 0, 1]),
            (check([0, 1], [0, 1]), [2, 0, 1]),
        ])

    def test_nodes_in_common_are_allowed(self):
        self.check_told(self.two, [(check([1, 0, 3], [0, 4]), [0, 4021 + 50001])])

    def test_the_least_first_then_the_least_second(self):
        a, b, c = [0, 1], [0, 3], [0, 4]
        calls = RINGS + [train(2)] * 4
        self.check_told(calls, [
            (check(a, a, a, a), [2, 0, 1]), (check(a, b, a, a), [2, 0, 2]), (check(a, b, b, a), [2, 0, 3]),
            (check(a, b, c, a), [2, 0, 3]), (check(a, b, b, b), [2, 1, 2]), (check(a, b, c, b), [2, 1, 3]),
            (check(a, b, c, c), [2, 2, 3]), (check([], b, a, b), [2, 1, 3]), (check([], [], a, a), [2, 2, 3]),
            (check(a, [], [], a), [2, 0, 3]), (check(a, b, c, [0, 6]), [0, 21 + 4001 + 50001 + 8]),
        ])

    def test_a_wrong_path_comes_before_a_line_in_common(self):
        self.check_told(RINGS + [train(2)] * 3, [
            (check([0, 1], [0, 1], [0]), [1, 2, 1]),
            (check([0, 1], [0, 1], [1, 2]), [1, 2, 7]),
            (check([0, 1], [0, 1, 2], [0, 1]), [1, 1, 8]),
        ])

    def test_it_goes_by_the_trains_that_there_are(self):
        calls = self.two + [check([0, 1, 2], [0, 3]), scrap(0), check([0, 1, 2], [0, 3]), check([0, 1, 2])]
        self.assertEqual(each_answer(calls)[len(self.two):], [[0, 4322], [0], [-3], [1, 0, 8]])

    def test_the_longest_row(self):
        self.check_told(RINGS + [train(2)], [(check([0, 1] * 499 + [0]), [1, 0, 4])])
        check_refused(self, RINGS + [train(2)], check_row([1000] + [0] * 999), -3)
        check_refused(self, RINGS + [train(2)], check_row([998] + [0] * 999), -3)
        self.check_told(RINGS + [train(2)], [(check_row([999] + [0] * 999), [1, 0, 3])])


if __name__ == "__main__":
    unittest.main()
