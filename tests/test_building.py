"""The functions that build nets: make_net, chain, opened, joined; and state_count (3.5)."""

import itertools
import unittest

from carrynet.nets import chain, is_net, joined, make_net, opened, state_count
from tests.helpers import A, TEN, not_integers, not_tuples, told


class MakeNet(unittest.TestCase):
    WIRES = ((0, 1, 3), (0, 2, -1), (1, 2, 100))
    INPUTS = (0, 1, 2)

    def test_any_order_of_wires_and_inputs(self):
        wanted = ((4, 6, 5), self.WIRES, self.INPUTS)
        for wires in itertools.permutations(self.WIRES):
            for inputs in itertools.permutations(self.INPUTS):
                self.assertEqual(make_net(4, 6, 5, wires=wires, inputs=inputs), wanted)

    def test_default_wires_and_inputs(self):
        self.assertEqual(make_net(7), ((7,), (), (0,)))
        self.assertEqual(make_net(*[2] * 10), ((2,) * 10, (), tuple(range(10))))
        self.assertEqual(make_net(4, 6, inputs=None), ((4, 6), (), (0, 1)))
        self.assertEqual(make_net(4, 6, inputs=()), ((4, 6), (), ()))
        self.assertEqual(make_net(4, 6, wires=((0, 1, 3),)), ((4, 6), ((0, 1, 3),), (0, 1)))

    def test_wrong_moduli(self):
        self.assertEqual(told(make_net), ("InvalidNet", "moduli", None))
        self.assertEqual(told(make_net, *[2] * 11), ("InvalidNet", "moduli", None))
        for index in range(3):
            for wrong in [*not_integers(), 1, 0, -1, 1001]:
                moduli = [2, 3, 4]
                moduli[index] = wrong
                self.assertEqual(told(make_net, *moduli), ("InvalidNet", "moduli", index))

    def test_moduli_are_not_sorted(self):
        self.assertEqual(make_net(6, 4, 5)[0], (6, 4, 5))

    def wires_fault(self, *wires):
        return told(make_net, 4, 6, 5, wires=wires, inputs=())

    def test_wrong_wires_by_their_sorted_index(self):
        self.assertEqual(self.wires_fault((0, 1, 0)), ("InvalidNet", "wires", 0))
        self.assertEqual(self.wires_fault((1, 2, 0), (0, 1, 1)), ("InvalidNet", "wires", 1))
        self.assertEqual(self.wires_fault((1, 2, 1), (0, 1, 101)), ("InvalidNet", "wires", 0))
        self.assertEqual(self.wires_fault((1, 2, 1), (0, 2, -101), (0, 1, 1)), ("InvalidNet", "wires", 1))
        self.assertEqual(self.wires_fault((2, 1, 1), (0, 1, 1)), ("InvalidNet", "wires", 1))
        self.assertEqual(self.wires_fault((1, 3, 1), (0, 2, 1), (0, 1, 1)), ("InvalidNet", "wires", 2))
        self.assertEqual(self.wires_fault((0, 1, 1), (0, -1, 1)), ("InvalidNet", "wires", 0))
        self.assertEqual(self.wires_fault((1, 1, 1), (0, 1, 1)), ("InvalidNet", "wires", 1))

    def test_repeated_pairs(self):
        self.assertEqual(self.wires_fault((0, 1, 1), (0, 1, 1)), ("InvalidNet", "wires", 1))
        self.assertEqual(self.wires_fault((0, 1, 2), (0, 1, 1)), ("InvalidNet", "wires", 1))
        # The wire with the weight 0 comes first when they are sorted.
        self.assertEqual(self.wires_fault((0, 1, 2), (0, 1, 0)), ("InvalidNet", "wires", 0))
        self.assertEqual(self.wires_fault((1, 2, 5), (0, 1, 2), (1, 2, -5)), ("InvalidNet", "wires", 2))

    def inputs_fault(self, *inputs):
        return told(make_net, 4, 6, 5, inputs=inputs)

    def test_wrong_inputs_by_their_sorted_index(self):
        self.assertEqual(self.inputs_fault(3), ("InvalidNet", "inputs", 0))
        self.assertEqual(self.inputs_fault(3, 0), ("InvalidNet", "inputs", 1))
        self.assertEqual(self.inputs_fault(0, -1), ("InvalidNet", "inputs", 0))
        self.assertEqual(self.inputs_fault(2, 0, 2), ("InvalidNet", "inputs", 2))
        self.assertEqual(self.inputs_fault(2, 0, 0), ("InvalidNet", "inputs", 1))

    def test_first_violation_of_several(self):
        wrong = {"wires": ((0, 1, 0),), "inputs": (9,)}
        self.assertEqual(told(make_net, **wrong), ("InvalidNet", "moduli", None))
        self.assertEqual(told(make_net, 2, 1, **wrong), ("InvalidNet", "moduli", 1))
        self.assertEqual(told(make_net, 2, 2, **wrong), ("InvalidNet", "wires", 0))
        self.assertEqual(told(make_net, 2, 2, inputs=(9,)), ("InvalidNet", "inputs", 0))

    def test_wires_and_inputs_of_other_kinds(self):
        for value in not_tuples():
            self.assertEqual(told(make_net, 2, 2, wires=value), ("InvalidNet", "wires", None))
            self.assertEqual(told(make_net, 2, 2, wires=((0, 1, 1), value)), ("InvalidNet", "wires", 1))
            if value is not None:
                self.assertEqual(told(make_net, 2, 2, inputs=value), ("InvalidNet", "inputs", None))
        for value in not_integers():
            self.assertEqual(told(make_net, 2, 2, wires=((0, 1, value),)), ("InvalidNet", "wires", 0))
            self.assertEqual(told(make_net, 2, 2, inputs=(value,)), ("InvalidNet", "inputs", 0))

    def test_true_is_sorted_but_refused(self):
        self.assertEqual(told(make_net, 2, 2, inputs=(True, 0)), ("InvalidNet", "inputs", 1))
        self.assertEqual(self.wires_fault((1, 2, True), (0, 1, 3)), ("InvalidNet", "wires", 1))

    def test_wires_and_inputs_are_keyword_only(self):
        self.assertEqual(told(make_net, 4, 6, ((0, 1, 3),)), ("InvalidNet", "moduli", 2))
        self.assertEqual(told(make_net, 4, None), ("InvalidNet", "moduli", 1))


class Chain(unittest.TestCase):
    def test_wires_to_the_next_counter(self):
        self.assertEqual(chain(4, 6), ((4, 6), ((0, 1, 1),), (0,)))
        self.assertEqual(chain(4, 6, weight=-7), ((4, 6), ((0, 1, -7),), (0,)))
        wires = tuple((counter, counter + 1, 100) for counter in range(9))
        self.assertEqual(chain(*range(2, 12), weight=100), (tuple(range(2, 12)), wires, (0,)))

    def test_one_counter_and_any_weight(self):
        for weight in (1, 0, -1, 100, 101, -101, 10 ** 999):
            self.assertEqual(chain(5, weight=weight), ((5,), (), (0,)))

    def test_wrong_moduli(self):
        self.assertEqual(told(chain), ("InvalidNet", "moduli", None))
        self.assertEqual(told(chain, *[2] * 11), ("InvalidNet", "moduli", None))
        self.assertEqual(told(chain, 2, 3, 1), ("InvalidNet", "moduli", 2))
        for wrong in [*not_integers(), 1, 1001]:
            self.assertEqual(told(chain, wrong), ("InvalidNet", "moduli", 0))
            self.assertEqual(told(chain, 2, wrong, 3, weight=0), ("InvalidNet", "moduli", 1))

    def test_wrong_weights(self):
        for weight in (0, 101, -101, 10 ** 999):
            self.assertEqual(told(chain, 2, 2, weight=weight), ("InvalidNet", "wires", 0))
            self.assertEqual(told(chain, 2, 2, 2, weight=weight), ("InvalidNet", "wires", 0))
        for weight in not_integers():
            self.assertEqual(told(chain, 2, 2, 2, weight=weight), ("InvalidNet", "wires", 0))

    def test_the_weight_is_keyword_only(self):
        self.assertEqual(chain(4, 6, 1000), ((4, 6, 1000), ((0, 1, 1), (1, 2, 1)), (0,)))


class Opened(unittest.TestCase):
    def test_all_counters_are_inputs(self):
        self.assertEqual(opened(A), ((4, 6), ((0, 1, 3),), (0, 1)))
        self.assertEqual(opened(net=TEN), ((2,) * 10, (), tuple(range(10))))
        self.assertEqual(opened(((2,), (), ())), ((2,), (), (0,)))
        self.assertEqual(opened(opened(A)), opened(A))

    def test_no_net(self):
        for value in not_tuples():
            self.assertEqual(told(opened, value), ("InvalidNet", "form", None))
        self.assertEqual(told(opened, ((4, 6), ((1, 0, 3),), (0,))), ("InvalidNet", "wires", 0))


class Joined(unittest.TestCase):
    B = ((5, 7, 9), ((0, 2, -4), (1, 2, 8)), (1, 2))
    ONE = ((3,), (), ())

    def test_one_net(self):
        for net in (A, self.B, self.ONE, TEN):
            self.assertEqual(joined(net), net)

    def test_several_nets_in_their_order(self):
        self.assertEqual(joined(A, self.B),
                         ((4, 6, 5, 7, 9), ((0, 1, 3), (2, 4, -4), (3, 4, 8)), (0, 3, 4)))
        self.assertEqual(joined(self.B, A),
                         ((5, 7, 9, 4, 6), ((0, 2, -4), (1, 2, 8), (3, 4, 3)), (1, 2, 3)))
        self.assertEqual(joined(A, self.ONE, A),
                         ((4, 6, 3, 4, 6), ((0, 1, 3), (3, 4, 3)), (0, 3)))
        self.assertTrue(is_net(joined(self.B, A, self.B)))

    def test_ten_and_eleven_counters_altogether(self):
        nine = ((2,) * 9, (), (8,))
        ten = joined(nine, self.ONE)
        self.assertEqual(ten, ((2,) * 9 + (3,), (), (8,)))
        self.assertEqual(joined(*[A] * 5)[0], (4, 6) * 5)
        self.assertEqual(joined(*[self.ONE] * 10)[0], (3,) * 10)
        self.assertEqual(told(joined, nine, A), ("TooLarge", 10))
        self.assertEqual(told(joined, TEN, self.ONE), ("TooLarge", 10))
        self.assertEqual(told(joined, *[self.ONE] * 11), ("TooLarge", 10))
        self.assertEqual(told(joined, *[TEN] * 100), ("TooLarge", 10))

    def test_no_net_in_each_place(self):
        for value in not_tuples():
            for index in range(3):
                nets = [A, A, A]
                nets[index] = value
                self.assertEqual(told(joined, *nets), ("InvalidNet", "form", None))

    def test_the_first_value_that_is_no_net(self):
        wires = ((4, 6), ((1, 0, 3),), (0,))
        inputs = ((4, 6), ((0, 1, 3),), (2,))
        self.assertEqual(told(joined, A, wires, inputs), ("InvalidNet", "wires", 0))
        self.assertEqual(told(joined, A, inputs, wires), ("InvalidNet", "inputs", 0))

    def test_no_net_comes_before_too_many_counters(self):
        self.assertEqual(told(joined, TEN, TEN, None), ("InvalidNet", "form", None))
        self.assertEqual(told(joined, TEN, TEN, (*A[:2], (0, 0))), ("InvalidNet", "inputs", 1))


class StateCount(unittest.TestCase):
    def test_the_product_of_the_moduli(self):
        self.assertEqual(state_count(A), 24)
        self.assertEqual(state_count(net=((7,), (), ())), 7)
        self.assertEqual(state_count(((2, 3, 1000), (), (0,))), 6000)
        self.assertEqual(state_count(((1000,) * 10, (), ())), 10 ** 30)

    def test_no_net(self):
        for value in not_tuples():
            self.assertEqual(told(state_count, value), ("InvalidNet", "form", None))
        self.assertEqual(told(state_count, ((4, 1), (), ())), ("InvalidNet", "moduli", 1))


if __name__ == "__main__":
    unittest.main()
