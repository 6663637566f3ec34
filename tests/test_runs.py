"""Promises 11, 16, 17 and 18: run, without, more, greedy."""

import unittest

from building import (
    GRAPH, GREATEST_INT, GREEDY, JOINT, LEAST_INT, RUN, answer_behind, answers_behind, chain, check_refused,
    each_answer, group, line, more, ring, scrap, set_stop, stop, train, unline, without,
)

# A base between two richer stops: the route over all three leaves no line for another train.
RICH_ENDS = [stop(50), stop(10, 0, 1), stop(50)] + chain([0, 1, 2])
STAR = [stop(1, 0, 1), stop(5), stop(7), stop(5), stop(6), line(0, 1), line(0, 2), line(0, 3), line(0, 4)]
ROW = [stop(10, 0, 1), stop(20), stop(40), stop(80)] + chain(range(4))


def trains(*lengths):
    return [train(length) for length in lengths]


# Groups of six and of five and a ring of eleven, all bases: 75 + 40 + 22 routes of at most three
# stops and 975 + 160 + 66 of at most seven. Behind them, apart from one another:
# a row of eleven (19, 45) and one of three (3, 3), in all 159 and 1249: the product is 160 * 1250;
# or four groups of three (24, 24) and a pair (1, 1), in all 162 and 1226: it is 163 * 1227.
THICK = group(0, 6) + group(6, 5) + ring(11, 11)
BASE = stop(1, 0, 1)
RUNS_200000 = THICK + [BASE] * 14 + chain(range(22, 33)) + chain(range(33, 36))
PAIR = [BASE] * 2 + [line(34, 35)]
RUNS_200001 = THICK + group(22, 3) + group(25, 3) + group(28, 3) + group(31, 3) + PAIR
PAIRS_LINE = 15 + 10 + 11 + 4 * 3

# Rows of three bases and pairs: 19 routes of two stops, 24 of at most three.
ROWS_AND_PAIRS = [BASE] * 15 + [one for k in range(0, 15, 3) for one in chain([k, k + 1, k + 2])]
ROWS_AND_PAIRS += [BASE] * 18 + [line(k, k + 1) for k in range(15, 33, 2)]
ONE_PAIR_MORE = [BASE] * 2 + [line(33, 34)]


class RunTest(unittest.TestCase):
    def run_of(self, calls, *lengths):
        return answer_behind(calls + trains(*lengths), RUN)

    def test_no_trains(self):
        self.assertEqual(self.run_of([]), [0])
        self.assertEqual(self.run_of(ROW), [0])

    def test_no_routes(self):
        self.assertEqual(self.run_of([], 2), [0, 0])
        self.assertEqual(self.run_of([stop(5), stop(5), line(0, 1)], 2, 8, 3), [0, 0, 0, 0])
        self.assertEqual(self.run_of([stop(5, 0, 1)] * 2, 2, 8, 3, 4), [0, 0, 0, 0, 0])

    def test_one_train(self):
        self.assertEqual(self.run_of(ROW, 2), [30, 2, 0, 1])
        self.assertEqual(self.run_of(ROW, 3), [70, 3, 0, 1, 2])
        self.assertEqual(self.run_of(ROW, 8), [150, 4, 0, 1, 2, 3])
        self.assertEqual(self.run_of(STAR, 3), [14, 3, 2, 0, 4])

    def test_a_train_without_a_route_wherever_it_stands(self):
        self.assertEqual(self.run_of(ROW, 2, 4), [150, 0, 4, 0, 1, 2, 3])
        self.assertEqual(self.run_of(ROW, 4, 2), [150, 4, 0, 1, 2, 3, 0])
        self.assertEqual(self.run_of(ROW, 3, 4, 2), [150, 0, 4, 0, 1, 2, 3, 0])

    def test_trains_of_different_lengths_in_any_order(self):
        self.assertEqual(self.run_of(STAR, 2, 3), [20, 2, 0, 1, 3, 2, 0, 4])
        self.assertEqual(self.run_of(STAR, 3, 2), [20, 3, 1, 0, 2, 2, 0, 4])
        self.assertEqual(self.run_of(STAR, 2, 3, 2), [26, 2, 0, 1, 3, 2, 0, 3, 2, 0, 4])

    def test_the_richest_route_would_hinder_the_others(self):
        self.assertEqual(self.run_of(RICH_ENDS, 3), [110, 3, 0, 1, 2])
        self.assertEqual(self.run_of(RICH_ENDS, 3, 2), [120, 2, 0, 1, 2, 1, 2])
        self.assertEqual(self.run_of(RICH_ENDS, 2, 3), [120, 2, 0, 1, 2, 1, 2])
        self.assertEqual(self.run_of(RICH_ENDS, 3, 3, 3), [120, 2, 0, 1, 2, 1, 2, 0])

    def test_two_routes_may_share_nodes(self):
        cross = [stop(1), stop(2), stop(10, 0, 1), stop(4), stop(8), line(2, 0), line(2, 1), line(2, 3), line(2, 4)]
        self.assertEqual(self.run_of(cross, 3, 3), [35, 3, 0, 2, 1, 3, 3, 2, 4])
        joint = [stop(1, 0, 1), stop(2, 0, 1), JOINT, stop(4, 0, 1), stop(8, 0, 1)] + cross[5:]
        self.assertEqual(self.run_of(joint, 2, 2), [15, 3, 0, 2, 1, 3, 3, 2, 4])

    def test_a_line_is_the_same_one_in_both_directions(self):
        # [0, 2, 1] and [1, 2, 3] would be worth 38 together.
        calls = [stop(9), stop(9), stop(1, 0, 1), stop(9), line(0, 2), line(2, 1), line(2, 3)]
        self.assertEqual(self.run_of(calls, 3, 3), [29, 2, 0, 2, 3, 1, 2, 3])
        self.assertEqual(answer_behind(calls + trains(3, 3), GREEDY), [29])

    def test_of_two_as_rich_runs_one_with_the_shorter_first_route(self):
        calls = [stop(9, 0, 1), stop(1, 0, 1), stop(1), stop(9), stop(9)] + chain([0, 2, 1, 3]) + [line(1, 4)]
        self.assertEqual(self.run_of(calls, 4, 2), [30, 4, 0, 2, 1, 3, 2, 1, 4])
        self.assertEqual(self.run_of(calls, 4, 4), [30, 3, 0, 2, 1, 3, 3, 1, 4])

    def test_of_several_the_first_train_has_the_first_route(self):
        star = [stop(1, 0, 1), stop(5), stop(5), stop(5), line(0, 3), line(0, 2), line(0, 1)]
        self.assertEqual(self.run_of(star, 2), [6, 2, 0, 1])
        self.assertEqual(self.run_of(star, 2, 2), [12, 2, 0, 1, 2, 0, 2])
        self.assertEqual(self.run_of(star, 2, 2, 2), [18, 2, 0, 1, 2, 0, 2, 2, 0, 3])
        self.assertEqual(self.run_of(star, 2, 2, 2, 2), [18, 2, 0, 1, 2, 0, 2, 2, 0, 3, 0])

    def test_none_is_behind_all_routes(self):
        pair = [stop(3, 0, 1), stop(4), line(0, 1)]
        self.assertEqual(self.run_of(pair, 2, 2), [7, 2, 0, 1, 0])
        self.assertEqual(self.run_of(pair, 8, 2, 5), [7, 2, 0, 1, 0, 0])

    def test_routes_of_worth_0_are_before_none(self):
        pair = [stop(0, 0, 1), stop(0), line(0, 1)]
        self.assertEqual(self.run_of(pair, 2), [0, 2, 0, 1])
        self.assertEqual(self.run_of(pair, 2, 2), [0, 2, 0, 1, 0])
        calls = pair + [stop(0), line(2, 0)]
        self.assertEqual(self.run_of(calls, 3, 2), [0, 2, 0, 1, 2, 0, 2])
        self.assertEqual(self.run_of(calls, 2, 2, 2), [0, 2, 0, 1, 2, 0, 2, 0])
        # Beside a route of some worth, too.
        calls = pair + [stop(9, 0, 1), stop(9), line(2, 3)]
        self.assertEqual(self.run_of(calls, 2, 2), [18, 2, 0, 1, 2, 2, 3])
        self.assertEqual(self.run_of(calls, 2, 2, 2), [18, 2, 0, 1, 2, 2, 3, 0])

    def test_a_first_train_steps_back_only_for_more_worth(self):
        # [0, 1] for the first and [0, 2] for the second train are worth as much as [0, 2] and [0, 1].
        calls = [stop(0, 0, 1), stop(4), stop(4), stop(1)] + [line(0, 1), line(0, 2), line(1, 3)]
        self.assertEqual(self.run_of(calls, 2, 2), [8, 2, 0, 1, 2, 0, 2])
        self.assertEqual(self.run_of(calls, 2, 3), [9, 2, 0, 2, 3, 0, 1, 3])
        self.assertEqual(self.run_of(calls, 3, 2), [9, 3, 0, 1, 3, 2, 0, 2])

    def test_runs_of_great_worth(self):
        # Three rows of eight, each with a base at its beginning.
        calls = ([stop(1000000, 0, 1)] + [stop(1000000)] * 7) * 3
        calls += chain(range(8)) + chain(range(8, 16)) + chain(range(16, 24))
        rows = [8] + list(range(8)) + [8] + list(range(8, 16)) + [8] + list(range(16, 24))
        self.assertEqual(self.run_of(calls, 8, 8, 8), [24000000] + rows)

    def test_it_follows_each_change(self):
        calls = RICH_ENDS + trains(3, 2) + [RUN, set_stop(2, 30, 0, 0), RUN, set_stop(1, 50, 0, 1), RUN]
        calls += [unline(0), RUN, scrap(0), RUN, scrap(0), RUN]
        self.assertEqual(each_answer(calls)[7::2], [
            [120, 2, 0, 1, 2, 1, 2], [100, 2, 0, 1, 2, 1, 2], [180, 2, 0, 1, 2, 1, 2], [80, 2, 1, 2, 0],
            [80, 2, 1, 2], [0],
        ])


class TooManyRunsTest(unittest.TestCase):
    def test_exactly_200000(self):
        for lengths in ((3, 7), (7, 3)):
            told = answer_behind(RUNS_200000 + trains(*lengths), RUN)
            self.assertEqual(told[0], 10)
            check_refused(self, RUNS_200001 + trains(*lengths), RUN, -10)

    def test_four_trains(self):
        self.assertEqual(answer_behind(ROWS_AND_PAIRS + trains(2, 3, 2, 2), RUN),
                         [9, 2, 0, 1, 3, 3, 4, 5, 2, 1, 2, 2, 6, 7])
        check_refused(self, ROWS_AND_PAIRS + ONE_PAIR_MORE + trains(2, 3, 2, 2), RUN, -10)
        check_refused(self, ROWS_AND_PAIRS + trains(2, 3, 3, 2), RUN, -10)

    def test_trains_of_one_length(self):
        # Twenty routes: 21 ** 4 is 194481. With one more it is 22 ** 4, 234256.
        calls = [BASE] * 40 + [line(k, k + 1) for k in range(0, 40, 2)] + trains(2, 2, 2, 2)
        self.assertEqual(answer_behind(calls, RUN), [8, 2, 0, 1, 2, 2, 3, 2, 4, 5, 2, 6, 7])
        check_refused(self, calls + [line(1, 2)], RUN, -10)

    def test_one_train_has_never_too_many(self):
        self.assertEqual(answer_behind(RUNS_200001 + trains(7), RUN), [7, 7, 11, 12, 13, 14, 15, 16, 17])

    def test_greedy_is_not_refused(self):
        self.assertEqual(answer_behind(RUNS_200001 + trains(3, 7), GREEDY), [10])

    def test_without_asks_the_graph_without_the_line(self):
        calls = RUNS_200001 + trains(3, 7)
        self.assertEqual(answer_behind(calls, without(PAIRS_LINE)), [10])
        more_pairs = [BASE] * 2 + [line(36, 37)]
        check_refused(self, RUNS_200001 + more_pairs + trains(3, 7), without(PAIRS_LINE), -10)
        check_refused(self, RUNS_200001 + more_pairs + trains(3, 7), without(PAIRS_LINE + 1), -10)
        self.assertEqual(answer_behind(RUNS_200000 + more_pairs + trains(3, 7), without(48)), [10])

    def test_no_such_line_comes_first(self):
        check_refused(self, RUNS_200001 + trains(3, 7), without(PAIRS_LINE + 1), -5)
        check_refused(self, RUNS_200001 + trains(3, 7), without(-1), -5)

    def test_more_asks_with_the_train(self):
        for first, other in ((3, 7), (7, 3)):
            self.assertEqual(answer_behind(RUNS_200000 + trains(first), more(other)), [10])
            check_refused(self, RUNS_200001 + trains(first), more(other), -10)
        check_refused(self, RUNS_200000 + trains(3, 7), more(2), -10)

    def test_more_asks_with_the_fifth_train(self):
        # Ten pairs: 11 ** 5 is 161051. With an eleventh it is 12 ** 5, 248832.
        pairs = [BASE] * 22 + [line(k, k + 1) for k in range(0, 20, 2)] + trains(2, 2, 2, 2)
        self.assertEqual(answer_behind(pairs, more(2)), [10])
        self.assertEqual(answer_behind(pairs + [line(20, 21)], RUN)[0], 8)
        check_refused(self, pairs + [line(20, 21)], more(2), -10)

    def test_a_wrong_length_comes_first(self):
        for wrong in (1, 9):
            check_refused(self, RUNS_200001 + trains(3, 7), more(wrong), -2)


class WithoutTest(unittest.TestCase):
    def test_each_line(self):
        told = answers_behind(STAR + trains(3), [without(place) for place in range(4)] + [RUN])
        self.assertEqual(told, [[14], [12], [14], [13], [14, 3, 2, 0, 4]])
        told = answers_behind(ROW + trains(2, 4), [without(place) for place in range(3)])
        self.assertEqual(told, [[0], [30], [70]])
        told = answers_behind(ring(0, 5) + trains(5), [without(place) for place in range(5)])
        self.assertEqual(told, [[5]] * 5)

    def test_without_the_only_line(self):
        self.assertEqual(answer_behind([stop(5, 0, 1), stop(6), line(0, 1), train(2)], without(0)), [0])

    def test_no_trains(self):
        self.assertEqual(answers_behind(ROW, [without(0), without(2)]), [[0], [0]])

    def test_all_trains_run(self):
        self.assertEqual(answers_behind(RICH_ENDS + trains(3, 2), [without(0), without(1)]), [[60], [60]])

    def test_no_such_line(self):
        for wrong in (3, -1, -3, 80, LEAST_INT, GREATEST_INT):
            check_refused(self, ROW + trains(2), without(wrong), -5)
        check_refused(self, [], without(0), -5)
        check_refused(self, ROW + trains(2) + [unline(0)], without(2), -5)

    def test_the_lines_keep_their_numbers(self):
        calls = ROW + trains(4) + [without(0), without(0), GRAPH, RUN, unline(0), RUN]
        told = each_answer(calls)[8:]
        self.assertEqual(told[:2], [[0], [0]])
        self.assertEqual(told[2][17:], [3, 0, 1, 1, 2, 2, 3, 1, 4])
        self.assertEqual(told[3:], [[150, 4, 0, 1, 2, 3], [0], [0, 0]])


class MoreTest(unittest.TestCase):
    def test_one_train_more(self):
        self.assertEqual(answers_behind(ROW, [more(2), more(3), more(8)]), [[30], [70], [150]])
        told = answers_behind(RICH_ENDS + trains(3), [more(2), more(8), RUN])
        self.assertEqual(told, [[120], [120], [110, 3, 0, 1, 2]])
        self.assertEqual(answers_behind(STAR + trains(2, 2), [more(2), more(3)]), [[21], [26]])

    def test_one_that_gets_nothing(self):
        self.assertEqual(answer_behind(ROW + trains(8), more(8)), [150])
        self.assertEqual(answers_behind([], [more(2), more(8)]), [[0], [0]])

    def test_there_may_be_five(self):
        star = [stop(0, 0, 1)] + [stop(worth) for worth in (1, 2, 4, 8, 16, 32)]
        star += [line(0, place) for place in range(1, 7)]
        told = answers_behind(star + trains(2, 2, 2, 2), [RUN, more(2), more(3)])
        self.assertEqual(told, [[60, 2, 0, 3, 2, 0, 4, 2, 0, 5, 2, 0, 6], [62], [63]])

    def test_wrong_length(self):
        for wrong in (1, 9, 0, -1, LEAST_INT, GREATEST_INT):
            check_refused(self, ROW + trains(2), more(wrong), -2)
            check_refused(self, ROW + trains(2, 2, 2, 2), more(wrong), -2)
            check_refused(self, [], more(wrong), -2)

    def test_there_is_no_train_more_behind_it(self):
        told = each_answer(ROW + trains(2, 2, 2) + [more(8), train(3), more(8), train(3), GRAPH])
        self.assertEqual(told[10:14], [[150], [3], [150], [-4]])
        self.assertEqual(told[14][-5:], [4, 2, 2, 2, 3])


class GreedyTest(unittest.TestCase):
    def greedy_of(self, calls, *lengths):
        return answer_behind(calls + trains(*lengths), GREEDY)

    def test_no_trains_and_no_routes(self):
        self.assertEqual(self.greedy_of([]), [0])
        self.assertEqual(self.greedy_of(ROW), [0])
        self.assertEqual(self.greedy_of([], 2, 3), [0])
        self.assertEqual(self.greedy_of([stop(5), stop(6), line(0, 1)], 2, 3), [0])

    def test_as_much_as_run(self):
        self.assertEqual(self.greedy_of(ROW, 3), [70])
        self.assertEqual(self.greedy_of(STAR, 2, 3), [20])
        self.assertEqual(self.greedy_of(STAR, 2, 3, 2), [26])

    def test_less_than_run(self):
        self.assertEqual(self.greedy_of(RICH_ENDS, 3, 2), [110])

    def test_longer_ones_first_wherever_they_stand(self):
        self.assertEqual(self.greedy_of(RICH_ENDS, 2, 3), [110])
        self.assertEqual(self.greedy_of(ROW, 2, 4, 3), [150])
        self.assertEqual(self.greedy_of(ROW, 2, 3, 4), [150])

    def test_trains_of_the_same_length(self):
        self.assertEqual(self.greedy_of(STAR, 2, 2), [15])
        self.assertEqual(self.greedy_of(STAR, 2, 2, 2, 2), [27])
        self.assertEqual(self.greedy_of(RICH_ENDS, 3, 3), [110])
        self.assertEqual(self.greedy_of(STAR, 3, 3, 2), [14 + 11])

    def test_of_several_the_first_is_taken(self):
        # Over 1 and 2 or over 3 and 4 the longer train gets as much; the first leaves [0, 3] alone.
        calls = [stop(0, 0, 1), stop(9), stop(1), stop(1), stop(9)] + chain([2, 1, 0, 3, 4])
        self.assertEqual(self.greedy_of(calls, 3, 2), [10 + 1])
        self.assertEqual(self.greedy_of(calls, 2, 3), [10 + 1])

    def test_no_line_of_any_train_is_taken_again(self):
        star = [stop(0, 0, 1)] + [stop(9)] * 5 + [line(0, place) for place in range(1, 6)]
        self.assertEqual(self.greedy_of(star, 3, 3, 3), [18 + 18 + 9])
        self.assertEqual(self.greedy_of(star, 3, 3, 3, 3), [18 + 18 + 9])

    def test_a_node_may_be_passed_again(self):
        cross = [stop(1), stop(2), stop(10, 0, 1), stop(4), stop(8), line(2, 0), line(2, 1), line(2, 3), line(2, 4)]
        self.assertEqual(self.greedy_of(cross, 3, 3), [22 + 13])


if __name__ == "__main__":
    unittest.main()
