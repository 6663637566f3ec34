"""Promise 7: graph."""

import itertools
import unittest

from building import GRAPH, JOINT, each_answer, last_answer, line, stop, train


class GraphTest(unittest.TestCase):
    def test_the_empty_map(self):
        self.assertEqual(each_answer([GRAPH]), [[0, 0, 0]])

    def test_nodes_lines_and_trains_as_told(self):
        calls = [train(8), stop(1000000, 1, 0), JOINT, line(1, 0), stop(0, 0, 1), train(2), line(0, 2), GRAPH]
        nodes = [3, 1, 1000000, 1, 0, 0, 0, 0, 0, 1, 0, 0, 1]
        self.assertEqual(last_answer(calls), nodes + [2, 1, 0, 0, 2] + [2, 8, 2])

    def test_only_nodes_and_only_trains(self):
        self.assertEqual(last_answer([stop(5, 1, 1), GRAPH]), [1, 1, 5, 1, 1, 0, 0])
        self.assertEqual(last_answer([train(4), GRAPH]), [0, 0, 1, 4])

    def test_asking_changes_nothing(self):
        told = each_answer([stop(5, 1, 1), train(3), GRAPH, GRAPH])
        self.assertEqual(told[2], told[3])

    def test_the_fullest_map(self):
        pairs = list(itertools.combinations(range(40), 2))[:80]
        calls = [stop(worth) for worth in range(40)] + [line(b, a) for a, b in pairs] + [train(8)] * 4
        nodes = [number for worth in range(40) for number in (1, worth, 0, 0)]
        lines = [number for a, b in pairs for number in (b, a)]
        self.assertEqual(last_answer(calls + [GRAPH]), [40] + nodes + [80] + lines + [4, 8, 8, 8, 8])


if __name__ == "__main__":
    unittest.main()
