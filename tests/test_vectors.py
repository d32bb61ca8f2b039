"""Tick vectors and walks: vector_of, total_of, vector_of_walk; 4.3, 4.4 and 4.7."""

import unittest

from carrynet.ticks import total_of, vector_of, vector_of_walk
from tests.helpers import A, TEN, not_integers, not_tuples, put, told

BIG = 10 ** 40
MOST = 10 ** 12
# Counter 1 is no input.
NET = ((4, 6, 5), ((0, 1, 3),), (0, 2))


class VectorOf(unittest.TestCase):
    def test_occurrences(self):
        self.assertEqual(vector_of(NET, 0), (1, 0, 0))
        self.assertEqual(vector_of(NET, 2, 0, 2, 2), (1, 0, 3))
        self.assertEqual(vector_of(NET, 2, 2, times=5), (0, 0, 10))
        self.assertEqual(vector_of(NET, 0, 2, 0, times=-4), (-8, 0, -4))
        self.assertEqual(vector_of(NET, 0, 2, times=0), (0, 0, 0))
        self.assertEqual(vector_of(A, *[0] * 9000, times=MOST), (9000 * MOST, 0))

    def test_no_counters(self):
        for times in (1, 0, -7, MOST):
            self.assertEqual(vector_of(NET, times=times), (0, 0, 0))
        self.assertEqual(vector_of(TEN), (0,) * 10)

    def test_bounds_of_times(self):
        self.assertEqual(vector_of(A, 0, times=MOST), (MOST, 0))
        self.assertEqual(vector_of(A, 0, times=-MOST), (-MOST, 0))
        for times in (MOST + 1, -MOST - 1, 10 ** 999, True, False):
            self.assertEqual(told(vector_of, A, 0, times=times), ("InvalidTimes", times))
            self.assertEqual(told(vector_of, A, times=times), ("InvalidTimes", times))

    def test_times_of_other_kinds(self):
        for times in not_integers():
            self.assertEqual(told(vector_of, A, 0, times=times), ("InvalidTimes", times))

    def test_values_that_are_no_counters(self):
        for wrong in [*not_integers(), -1, 3, 10 ** 999, -10 ** 999]:
            for counters in ((wrong,), (wrong, 0), (0, wrong, 2), (2, 0, wrong)):
                self.assertEqual(told(vector_of, NET, *counters), ("InvalidCounter", wrong))

    def test_the_first_value_that_is_no_counter(self):
        self.assertEqual(told(vector_of, NET, 0, 5, 4), ("InvalidCounter", 5))
        self.assertEqual(told(vector_of, NET, 0, 4, 5), ("InvalidCounter", 4))

    def test_counters_that_are_no_inputs(self):
        self.assertEqual(told(vector_of, NET, 1), ("NotAnInput", 1))
        self.assertEqual(told(vector_of, NET, 0, 2, 1), ("NotAnInput", 1))
        self.assertEqual(told(vector_of, NET, 1, times=0), ("NotAnInput", 1))
        self.assertEqual(told(vector_of, TEN, 7, 3), ("NotAnInput", 7))
        self.assertEqual(told(vector_of, TEN, 3, 7), ("NotAnInput", 3))

    def test_the_order_of_errors(self):
        wrong_net = (*NET[:2], (0, 0))
        self.assertEqual(told(vector_of, wrong_net, 3, 1, times=None), ("InvalidNet", "inputs", 1))
        self.assertEqual(told(vector_of, wrong_net, times=None), ("InvalidNet", "inputs", 1))
        self.assertEqual(told(vector_of, NET, 1, 3, times=None), ("InvalidCounter", 3))
        self.assertEqual(told(vector_of, NET, 1, 3), ("InvalidCounter", 3))
        self.assertEqual(told(vector_of, NET, 0, 1, times=None), ("NotAnInput", 1))
        self.assertEqual(told(vector_of, NET, 0, times=None), ("InvalidTimes", None))
        for value in not_tuples():
            self.assertEqual(told(vector_of, value, value, times=value), ("InvalidNet", "form", None))

    def test_times_is_keyword_only(self):
        self.assertEqual(told(vector_of, NET, 0, 3), ("InvalidCounter", 3))

    def test_the_net_by_name(self):
        self.assertEqual(vector_of(net=NET, times=3), (0, 0, 0))


class TotalOf(unittest.TestCase):
    def test_none_one_and_several(self):
        self.assertEqual(total_of(NET), (0, 0, 0))
        self.assertEqual(total_of(net=TEN), (0,) * 10)
        self.assertEqual(total_of(NET, (3, 0, -4)), (3, 0, -4))
        self.assertEqual(total_of(NET, (3, 0, -4), (-5, 0, -6)), (-2, 0, -10))
        self.assertEqual(total_of(NET, *[(1, 0, -2)] * 100), (100, 0, -200))

    def test_sums_beyond_the_bounds(self):
        self.assertEqual(total_of(NET, (BIG, 0, -BIG), (1, 0, -1)), (BIG + 1, 0, -BIG - 1))
        self.assertEqual(total_of(NET, *[(BIG, 0, -BIG)] * 10), (10 * BIG, 0, -10 * BIG))
        self.assertEqual(total_of(NET, (BIG, 0, 0), (BIG, 0, 0), (-BIG, 0, 0)), (BIG, 0, 0))

    def test_values_of_other_kinds_in_each_place(self):
        for value in not_tuples():
            for index in range(3):
                vectors = put(((1, 0, 1),) * 3, index, value)
                self.assertEqual(told(total_of, NET, *vectors), ("InvalidTicks", None))

    def test_wrong_entries_in_each_place(self):
        for wrong in [*not_integers(), BIG + 1, -BIG - 1]:
            for place in range(3):
                for index in range(3):
                    vectors = put(((1, 0, 1),) * 3, place, put((1, 0, 1), index, wrong))
                    self.assertEqual(told(total_of, NET, *vectors), ("InvalidTicks", index))
        self.assertEqual(told(total_of, NET, (1, 0, 1), (1, 1, 1)), ("InvalidTicks", 1))
        self.assertEqual(told(total_of, NET, (1, 0, 1), (1, 0)), ("InvalidTicks", None))

    def test_the_first_value_that_is_no_tick_vector(self):
        self.assertEqual(told(total_of, NET, (0, 1, 0), None, (None, 0, 0)), ("InvalidTicks", 1))
        self.assertEqual(told(total_of, NET, (0, 0, 0), None, (None, 0, 0)), ("InvalidTicks", None))

    def test_the_net_comes_first(self):
        self.assertEqual(told(total_of, (*NET[:2], (3,)), None), ("InvalidNet", "inputs", 0))
        for value in not_tuples():
            self.assertEqual(told(total_of, value, value), ("InvalidNet", "form", None))
            self.assertEqual(told(total_of, value), ("InvalidNet", "form", None))


class VectorOfWalk(unittest.TestCase):
    def test_forward_minus_backward_steps(self):
        self.assertEqual(vector_of_walk(NET, ((0, 1),)), (1, 0, 0))
        self.assertEqual(vector_of_walk(NET, ((2, -1),)), (0, 0, -1))
        self.assertEqual(vector_of_walk(NET, ((0, 1), (2, -1), (0, 1), (2, 1), (2, -1))), (2, 0, -1))

    def test_no_steps(self):
        self.assertEqual(vector_of_walk(NET, ()), (0, 0, 0))
        self.assertEqual(vector_of_walk(TEN, ()), (0,) * 10)

    def test_number_of_steps(self):
        self.assertEqual(vector_of_walk(NET, ((0, 1),) * 1000), (1000, 0, 0))
        self.assertEqual(told(vector_of_walk, NET, ((0, 1),) * 1001), ("InvalidWalk", None))
        self.assertEqual(told(vector_of_walk, NET, (None,) * 1001), ("InvalidWalk", None))

    def test_walks_of_other_kinds(self):
        for value in not_tuples():
            self.assertEqual(told(vector_of_walk, NET, value), ("InvalidWalk", None))
        self.assertEqual(told(vector_of_walk, NET, [(0, 1)]), ("InvalidWalk", None))

    def is_no_step(self, step):
        right = ((0, 1), (2, -1), (0, -1))
        for index in range(3):
            self.assertEqual(told(vector_of_walk, NET, put(right, index, step)), ("InvalidWalk", index), step)
        walk = ((2, 1),) * 999
        self.assertEqual(told(vector_of_walk, NET, (*walk, step)), ("InvalidWalk", 999))

    def test_steps_of_other_kinds_and_lengths(self):
        for step in [*not_tuples(), [0, 1], (), (0,), (0, 1, 1), ((0, 1),)]:
            self.is_no_step(step)

    def test_wrong_counters_in_steps(self):
        for counter in [*not_integers(), 1, -1, 3, 10 ** 999, -10 ** 999]:
            self.is_no_step((counter, 1))
            self.is_no_step((counter, None))

    def test_wrong_signs_in_steps(self):
        for sign in [*not_integers(), 0, 2, -2, 10 ** 999, -10 ** 999]:
            self.is_no_step((0, sign))

    def test_true_is_neither_a_counter_nor_a_sign(self):
        net = ((2, 2), (), (0, 1))
        self.assertEqual(vector_of_walk(net, ((1, 1), (0, 1))), (1, 1))
        for step in ((True, 1), (False, 1), (1, True), (0, False)):
            self.assertEqual(told(vector_of_walk, net, (step,)), ("InvalidWalk", 0))

    def test_smallest_index_first(self):
        self.assertEqual(told(vector_of_walk, NET, ((0, 1), (1, 1), None)), ("InvalidWalk", 1))

    def test_the_net_comes_first(self):
        for value in not_tuples():
            self.assertEqual(told(vector_of_walk, value, value), ("InvalidNet", "form", None))
        self.assertEqual(told(vector_of_walk, ((4, 1), (), (0,)), ((1, 1),)), ("InvalidNet", "moduli", 1))

    def test_by_position_and_by_name(self):
        self.assertEqual(vector_of_walk(walk=((0, 1),), net=NET), (1, 0, 0))

    def test_wrong_values_are_not_changed(self):
        walk = ([0, 1], {0: 1})
        self.assertEqual(told(vector_of_walk, NET, walk), ("InvalidWalk", 0))
        self.assertEqual(walk, ([0, 1], {0: 1}))


if __name__ == "__main__":
    unittest.main()
