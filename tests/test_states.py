"""States and their checks: 3.5, 3.6, and the order of errors in 2.4."""

import itertools
import unittest

from carrynet.nets import is_state, validate_phases
from tests.helpers import A, TEN, not_integers, not_tuples, put, told

THREE = ((4, 6, 5), ((0, 1, 3),), (0,))


class States(unittest.TestCase):
    def is_wrong(self, net, value, index):
        self.assertEqual(told(validate_phases, net, value), ("InvalidPhases", index), value)
        self.assertIs(is_state(net, value), False)

    def is_right(self, net, value):
        self.assertIsNone(validate_phases(net, value))
        self.assertIs(is_state(net, value), True)

    def test_all_states_of_a_net(self):
        for state in itertools.product(range(4), range(6)):
            self.is_right(A, state)
        self.is_right(TEN, (1,) * 10)
        self.is_right(((1000,), (), ()), (999,))

    def test_values_of_other_kinds(self):
        for value in not_tuples():
            self.is_wrong(A, value, None)
        self.is_wrong(A, [3, 5], None)

    def test_other_numbers_of_items(self):
        for value in ((), (0,), (0, 0, 0), (0, 0, None), (None,)):
            self.is_wrong(A, value, None)
        self.is_wrong(TEN, (0,) * 9, None)
        self.is_wrong(TEN, (0,) * 11, None)

    def test_a_wrong_phase_at_each_index(self):
        for index, modulus in enumerate(THREE[0]):
            self.is_right(THREE, put((0, 0, 0), index, modulus - 1))
            for wrong in [*not_integers(), -1, modulus, modulus + 1, 10 ** 999, -10 ** 999]:
                self.is_wrong(THREE, put((0, 0, 0), index, wrong), index)

    def test_smallest_index_first(self):
        self.is_wrong(THREE, (0, 6, 5), 1)
        self.is_wrong(THREE, (None, True, -1), 0)
        self.is_wrong(THREE, (3, True, -1), 1)

    def test_the_net_comes_first(self):
        for function in (validate_phases, is_state):
            for value in not_tuples():
                self.assertEqual(told(function, value, value), ("InvalidNet", "form", None))
            self.assertEqual(told(function, ((4, 6), ((0, 1, 0),), (0,)), None), ("InvalidNet", "wires", 0))
            self.assertEqual(told(function, ((4, 6), (), (2,)), (9, 9)), ("InvalidNet", "inputs", 0))
            self.assertEqual(told(function, ((4, 1), (), ()), (0, 0)), ("InvalidNet", "moduli", 1))

    def test_by_position_and_by_name(self):
        self.assertIsNone(validate_phases(phases=(3, 5), net=A))
        self.assertIs(is_state(value=(3, 5), net=A), True)
        self.assertIs(is_state(A, value=(4, 5)), False)

    def test_wrong_values_are_not_changed(self):
        value = [3, [5]]
        self.is_wrong(A, value, None)
        self.is_wrong(A, (3, value), 1)
        self.assertEqual(value, [3, [5]])


if __name__ == "__main__":
    unittest.main()
