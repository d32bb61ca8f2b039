"""The checks of nets: 3.1 to 3.4."""

import unittest

from carrynet import nets
from carrynet.errors import InvalidNet
from carrynet.nets import is_net, validate_net
from tests.helpers import A, TEN, nested, not_integers, not_tuples, put, told

# Three counters, wires and inputs, so that there are a first, a middle and a last index.
THREE = ((4, 6, 5), ((0, 1, 3), (0, 2, -1), (1, 2, 100)), (0, 1, 2))


class Checks(unittest.TestCase):
    def is_right(self, net):
        self.assertIsNone(validate_net(net))
        self.assertIs(is_net(net), True)

    def is_wrong(self, value, part, index):
        self.assertEqual(told(validate_net, value), ("InvalidNet", part, index), value)
        self.assertIs(is_net(value), False)


class Constants(unittest.TestCase):
    def test_values(self):
        self.assertEqual((nets.MOST_COUNTERS, nets.MOST_MODULUS), (10, 1000))
        self.assertEqual((nets.MOST_WEIGHT, nets.MOST_TICKS), (100, 10 ** 40))
        for name in ("MOST_COUNTERS", "MOST_MODULUS", "MOST_WEIGHT", "MOST_TICKS"):
            self.assertIs(type(getattr(nets, name)), int)


class RightNets(Checks):
    def test_ordinary_nets(self):
        for net in (A, THREE, TEN, ((2,), (), ()), ((1000,), (), (0,)), ((2, 3), ((0, 1, -1),), ())):
            self.is_right(net)

    def test_all_wires_and_inputs_of_ten_counters(self):
        wires = tuple((u, v, 100 if (u + v) % 2 else -100) for u in range(10) for v in range(u + 1, 10))
        self.is_right(((2, 1000) * 5, wires, tuple(range(10))))

    def test_smallest_and_greatest_numbers(self):
        for modulus in (2, 3, 999, 1000):
            self.is_right(((modulus, modulus), (), ()))
        for weight in (-100, -99, -1, 1, 99, 100):
            self.is_right(((2, 2), ((0, 1, weight),), ()))


class Form(Checks):
    def test_other_kinds(self):
        for value in not_tuples():
            self.is_wrong(value, "form", None)

    def test_other_numbers_of_items(self):
        for value in ((), A[:1], A[:2], (*A, ()), (*A, *A), (1, 2), nested(20)):
            self.is_wrong(value, "form", None)

    def test_a_list_of_right_parts(self):
        self.is_wrong(list(A), "form", None)

    def test_three_items_of_any_kind(self):
        for value in not_tuples():
            self.is_wrong((value, value, value), "moduli", None)
        self.is_wrong((nested(18), nested(18), nested(18)), "moduli", 0)


class Moduli(Checks):
    def test_other_kinds(self):
        for value in not_tuples():
            self.is_wrong((value, (), ()), "moduli", None)
        self.is_wrong(([4, 6], ((0, 1, 3),), (0,)), "moduli", None)

    def test_numbers_of_counters(self):
        self.is_wrong(((), (), ()), "moduli", None)
        self.is_right(((2,), (), ()))
        self.is_right(((2,) * 10, (), ()))
        self.is_wrong(((2,) * 11, (), ()), "moduli", None)
        self.is_wrong(((2,) * 9000, (), ()), "moduli", None)

    def test_eleven_wrong_items(self):
        self.is_wrong(((0,) * 11, (), ()), "moduli", None)

    def test_a_wrong_item_at_each_index(self):
        wrong = [*not_integers(), 1, 0, -1, -2, 1001, 10 ** 999, -10 ** 999]
        for index in range(3):
            for item in wrong:
                self.is_wrong((put(THREE[0], index, item), THREE[1], THREE[2]), "moduli", index)
        for index in (0, 4, 9):
            self.is_wrong((put(TEN[0], index, 1001), (), ()), "moduli", index)

    def test_smallest_index_first(self):
        self.is_wrong(((2, 1, 1001), (), ()), "moduli", 1)
        self.is_wrong(((None, 1, True), (), ()), "moduli", 0)


class Wires(Checks):
    def test_other_kinds(self):
        for value in not_tuples():
            self.is_wrong((THREE[0], value, ()), "wires", None)
        self.is_wrong((THREE[0], list(THREE[1]), ()), "wires", None)

    def wrong_at_each_index(self, item):
        for index in range(3):
            self.is_wrong(put(THREE, 1, put(THREE[1], index, item)), "wires", index)

    def test_items_of_other_kinds(self):
        for item in [*not_tuples(), *not_integers()]:
            self.wrong_at_each_index(item)
        self.is_wrong((A[0], ([0, 1, 3],), ()), "wires", 0)

    def test_items_of_other_lengths(self):
        for item in ((), (0,), (0, 1), (0, 1, 3, 4), ((0, 1, 3),), (0, 1, 3, None)):
            self.wrong_at_each_index(item)

    def test_wrong_numbers_of_counters(self):
        for item in ((1, 0, 3), (0, 0, 3), (2, 1, 3), (2, 2, 3), (-1, 0, 3), (-1, 2, 3), (-2, -1, 3), (0, 3, 3),
                     (3, 4, 3), (2, 3, 3), (0, 10 ** 999, 3), (-10 ** 999, 1, 3)):
            self.wrong_at_each_index(item)

    def test_wrong_weights(self):
        for index, wire in enumerate(THREE[1]):
            for weight in [*not_integers(), 0, 101, -101, 10 ** 999, -10 ** 999]:
                wires = put(THREE[1], index, (*wire[:2], weight))
                self.is_wrong(put(THREE, 1, wires), "wires", index)

    def test_counters_of_other_kinds(self):
        for index, (origin, target, weight) in enumerate(THREE[1]):
            for item in not_integers():
                for wire in ((item, target, weight), (origin, item, weight)):
                    self.is_wrong(put(THREE, 1, put(THREE[1], index, wire)), "wires", index)
        self.is_wrong((A[0], ((False, 1, 3),), ()), "wires", 0)
        self.is_wrong((A[0], ((0, True, 3),), ()), "wires", 0)
        self.is_wrong((A[0], ((0, 1, True),), ()), "wires", 0)

    def test_bounds_follow_the_number_of_counters(self):
        self.is_right((TEN[0], ((8, 9, 1),), ()))
        self.is_wrong((TEN[0], ((8, 10, 1),), ()), "wires", 0)
        self.is_wrong(((2,), ((0, 1, 1),), ()), "wires", 0)

    def test_repeated_pairs(self):
        self.is_wrong((THREE[0], ((0, 1, 3), (0, 1, 3)), ()), "wires", 1)
        self.is_wrong((THREE[0], ((0, 1, 3), (0, 1, 4)), ()), "wires", 1)
        self.is_wrong((THREE[0], ((0, 1, 3), (0, 2, 4), (0, 2, -4)), ()), "wires", 2)

    def test_descending_pairs(self):
        self.is_wrong((THREE[0], ((0, 2, 1), (0, 1, 2)), ()), "wires", 1)
        self.is_wrong((THREE[0], ((1, 2, 1), (0, 2, 2)), ()), "wires", 1)
        self.is_wrong((THREE[0], ((0, 1, 1), (1, 2, 1), (0, 2, 1)), ()), "wires", 2)
        self.is_right((TEN[0], ((0, 9, 1), (1, 2, 1)), ()))

    def test_smallest_index_first(self):
        self.is_wrong((THREE[0], ((0, 1, 1), (0, 1, 1), None), ()), "wires", 1)
        self.is_wrong((THREE[0], ((0, 1, 1), None, (0, 1, 1)), ()), "wires", 1)


class Inputs(Checks):
    def test_other_kinds(self):
        for value in not_tuples():
            self.is_wrong((THREE[0], THREE[1], value), "inputs", None)
        self.is_wrong((*A[:2], [0]), "inputs", None)

    def test_a_wrong_item_at_each_index(self):
        for index in range(3):
            for item in [*not_integers(), -1, 3, 10 ** 999, -10 ** 999]:
                self.is_wrong(put(THREE, 2, put(THREE[2], index, item)), "inputs", index)
        self.is_wrong((*A[:2], (False,)), "inputs", 0)
        self.is_wrong((*A[:2], (0, True)), "inputs", 1)

    def test_bounds_follow_the_number_of_counters(self):
        self.is_right((*TEN[:2], (9,)))
        self.is_wrong((*TEN[:2], (10,)), "inputs", 0)
        self.is_wrong(((2,), (), (1,)), "inputs", 0)

    def test_repeated_and_descending_items(self):
        self.is_wrong((*THREE[:2], (0, 0)), "inputs", 1)
        self.is_wrong((*THREE[:2], (0, 2, 2)), "inputs", 2)
        self.is_wrong((*THREE[:2], (0, 2, 1)), "inputs", 2)
        self.is_wrong((*THREE[:2], (1, 0)), "inputs", 1)

    def test_smallest_index_first(self):
        self.is_wrong((*THREE[:2], (0, 0, None)), "inputs", 1)
        self.is_wrong((*THREE[:2], (None, 0, 0)), "inputs", 0)


class SeveralViolations(Checks):
    MODULI = (([], None), ((), None), ((4, 1, 1), 1))
    WIRES = (([], None), (((0, 1, 3), (0, 1, 3)), 1), ((0,), 0))
    INPUTS = ((None, None), ((0, 0), 1), ((3,), 0))

    def test_the_form_comes_first(self):
        for moduli, _ in self.MODULI:
            for wires, _ in self.WIRES:
                self.is_wrong((moduli, wires), "form", None)
                self.is_wrong([moduli, wires, ()], "form", None)

    def test_moduli_come_before_wires_and_inputs(self):
        for moduli, index in self.MODULI:
            for wires, _ in (*self.WIRES, ((), 0)):
                for inputs, _ in (*self.INPUTS, ((), 0)):
                    self.is_wrong((moduli, wires, inputs), "moduli", index)

    def test_wires_come_before_inputs(self):
        for wires, index in self.WIRES:
            for inputs, _ in self.INPUTS:
                self.is_wrong((THREE[0], wires, inputs), "wires", index)

    def test_none_comes_before_an_index(self):
        self.is_wrong(((True,) * 11, (), ()), "moduli", None)
        self.is_wrong((THREE[0], [None], ()), "wires", None)
        self.is_wrong((*THREE[:2], [None]), "inputs", None)


class Arguments(unittest.TestCase):
    def test_by_position_and_by_name(self):
        self.assertIsNone(validate_net(net=A))
        self.assertIs(is_net(value=A), True)
        self.assertIs(is_net(value=None), False)
        with self.assertRaises(InvalidNet):
            validate_net(net=None)

    def test_wrong_values_are_not_changed(self):
        value = ([4, 6], [[0, 1, 3]], {0: []})
        validated = told(validate_net, value)
        self.assertEqual(validated, told(validate_net, value))
        self.assertEqual(value, ([4, 6], [[0, 1, 3]], {0: []}))


if __name__ == "__main__":
    unittest.main()
