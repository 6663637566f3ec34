"""Promise 15: reach."""

import unittest

from building import JOINT, REACH, answer_behind, chain, each_answer, line, scrap, set_stop, stop, train, unline

BASE = stop(1, 0, 1)
PLAIN = stop(1)
SHUT = stop(1, 1, 0)
FULL_BASE = stop(1, 1, 1)


class ReachTest(unittest.TestCase):
    def reached(self, calls):
        told = answer_behind(calls, REACH)
        self.assertEqual(told[0], len(told) - 1)
        return told[1:]

    def test_no_nodes(self):
        self.assertEqual(each_answer([REACH]), [[0]])

    def test_no_base(self):
        self.assertEqual(answer_behind([PLAIN, PLAIN, JOINT, SHUT] + chain(range(4)), REACH), [0])

    def test_a_base_by_itself(self):
        self.assertEqual(answer_behind([PLAIN, BASE, PLAIN], REACH), [1, 1])

    def test_all_that_hangs_together(self):
        calls = [PLAIN] * 3 + [BASE] + [PLAIN] * 4 + [line(3, 6), line(6, 0), line(5, 0), line(1, 2), line(2, 4)]
        self.assertEqual(self.reached(calls), [0, 3, 5, 6])
        self.assertEqual(self.reached(calls + [line(7, 5), line(7, 4)]), list(range(8)))

    def test_several_bases(self):
        self.assertEqual(self.reached([BASE, PLAIN, PLAIN, BASE, PLAIN, line(3, 4), line(1, 0)]), [0, 1, 3, 4])
        self.assertEqual(self.reached([BASE] * 5), [0, 1, 2, 3, 4])

    def test_by_rising_numbers(self):
        calls = [PLAIN] * 11 + [BASE] + chain([11, 10, 2, 9, 1, 8, 0])
        self.assertEqual(self.reached(calls), [0, 1, 2, 8, 9, 10, 11])

    def test_nothing_beyond_a_shut_stop(self):
        self.assertEqual(self.reached([BASE, SHUT, PLAIN, PLAIN] + chain(range(4))), [0, 1])
        self.assertEqual(self.reached([BASE, PLAIN, SHUT, JOINT] + chain(range(4))), [0, 1, 2])
        self.assertEqual(self.reached([BASE, SHUT, SHUT, BASE] + chain(range(4))), [0, 1, 2, 3])
        self.assertEqual(self.reached([BASE, SHUT, PLAIN, SHUT, BASE] + chain(range(5))), [0, 1, 3, 4])

    def test_round_a_shut_stop(self):
        calls = [BASE, SHUT, PLAIN, PLAIN] + chain([0, 1, 2, 3])
        self.assertEqual(self.reached(calls + [line(3, 0)]), [0, 1, 2, 3])

    def test_through_a_filled_stop_with_a_base(self):
        self.assertEqual(self.reached([PLAIN, FULL_BASE, PLAIN] + chain(range(3))), [0, 1, 2])
        self.assertEqual(self.reached([PLAIN, FULL_BASE, SHUT, PLAIN] + chain(range(4))), [0, 1, 2])

    def test_through_joints(self):
        self.assertEqual(self.reached([BASE] + [JOINT] * 38 + [PLAIN] + chain(range(40))), list(range(40)))
        self.assertEqual(self.reached([BASE, JOINT, JOINT, JOINT] + chain([0, 3, 2])), [0, 2, 3])

    def test_farther_than_any_train(self):
        self.assertEqual(self.reached([PLAIN] * 39 + [BASE] + chain(range(40))), list(range(40)))

    def test_it_follows_each_change(self):
        calls = [BASE, PLAIN, PLAIN] + chain(range(3)) + [REACH, set_stop(1, 1, 1, 0), REACH, unline(0), REACH]
        calls += [set_stop(2, 1, 0, 1), REACH, set_stop(0, 1, 0, 0), REACH, set_stop(1, 1, 1, 1), REACH]
        wanted = [[3, 0, 1, 2], [2, 0, 1], [1, 0], [3, 0, 1, 2], [2, 1, 2], [2, 1, 2]]
        self.assertEqual(each_answer(calls)[5::2], wanted)

    def test_trains_have_no_part_in_it(self):
        calls = [BASE, PLAIN, PLAIN] + chain(range(3)) + [train(2), REACH, scrap(0), REACH]
        self.assertEqual(each_answer(calls)[6::2], [[3, 0, 1, 2], [3, 0, 1, 2]])


if __name__ == "__main__":
    unittest.main()
