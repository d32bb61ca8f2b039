"""Ticks, arrivals, carries and the state afterwards: 4.1 to 4.6."""

import itertools
import unittest

from carrynet.nets import make_net
from carrynet.ticks import after, arrivals, carries
from tests.helpers import A, TEN, not_integers, not_tuples, put, steps_of, tick_by_tick, told

FUNCTIONS = (arrivals, carries, after)
BIG = 10 ** 40


def results(net, phases, ticks):
    return tuple(function(net, phases, ticks) for function in FUNCTIONS)


class Results(unittest.TestCase):
    def test_forward_and_backward(self):
        self.assertEqual(results(A, (0, 0), (0, 0)), ((0, 0), (0, 0), (0, 0)))
        self.assertEqual(results(A, (3, 5), (1, 0)), ((1, 3), (1, 1), (0, 2)))
        self.assertEqual(results(A, (0, 0), (-1, 0)), ((-1, -3), (-1, -1), (3, 3)))
        self.assertEqual(results(A, (1, 2), (-1, 0)), ((-1, 0), (0, 0), (0, 2)))
        self.assertEqual(results(A, (2, 0), (1, 0)), ((1, 0), (0, 0), (3, 0)))

    def test_negative_weight(self):
        net = ((2, 3), ((0, 1, -2),), (0, 1))
        self.assertEqual(results(net, (1, 1), (1, 0)), ((1, -2), (1, -1), (0, 2)))
        self.assertEqual(results(net, (0, 2), (-1, 0)), ((-1, 2), (-1, 1), (1, 1)))
        self.assertEqual(results(net, (1, 0), (1, 2)), ((1, 0), (1, 0), (0, 0)))

    def test_several_wires(self):
        net = ((2, 2, 5), ((0, 1, 1), (0, 2, 100), (1, 2, -100)), (0,))
        self.assertEqual(results(net, (0, 0, 0), (4, 0, 0)), ((4, 2, 100), (2, 1, 20), (0, 0, 0)))
        self.assertEqual(results(net, (1, 1, 3), (1, 0, 0)), ((1, 1, 0), (1, 1, 0), (0, 0, 3)))

    def test_net_without_inputs(self):
        self.assertEqual(results(TEN, (1,) * 10, (0,) * 10), ((0,) * 10, (0,) * 10, (1,) * 10))

    def test_greatest_entries(self):
        net = ((10, 10, 10), ((0, 1, 1), (1, 2, 1)), (0,))
        self.assertEqual(results(net, (0, 0, 0), (BIG, 0, 0)),
                         ((BIG, 10 ** 39, 10 ** 38), (10 ** 39, 10 ** 38, 10 ** 37), (0, 0, 0)))
        self.assertEqual(results(net, (0, 0, 0), (-BIG, 0, 0)),
                         ((-BIG, -10 ** 39, -10 ** 38), (-10 ** 39, -10 ** 38, -10 ** 37), (0, 0, 0)))
        self.assertEqual(results(net, (0, 0, 0), (1 - BIG, 0, 0)),
                         ((1 - BIG, -10 ** 39, -10 ** 38), (-10 ** 39, -10 ** 38, -10 ** 37), (1, 0, 0)))
        self.assertEqual(results(net, (9, 9, 9), (BIG - 9, 0, 0)),
                         ((BIG - 9, 10 ** 39, 10 ** 38), (10 ** 39, 10 ** 38, 10 ** 37), (0, 9, 9)))

    def test_greatest_entries_at_several_counters(self):
        net = ((3, 7), ((0, 1, -100),), (0, 1))
        for first in (BIG, BIG - 1, -BIG, 1 - BIG):
            for second in (BIG, -BIG, 0):
                carry = (2 + first) // 3
                arrived = second - 100 * carry
                self.assertEqual(results(net, (2, 6), (first, second)),
                                 ((first, arrived), (carry, (6 + arrived) // 7),
                                  ((2 + first) % 3, (6 + arrived) % 7)))


class SingleTicks(unittest.TestCase):
    """4.5 and 4.6 against ticks that are made one after the other by 4.1."""

    VECTORS = ((0, 0, 0), (1, 0, 0), (-1, 0, 0), (5, 0, -2), (-3, 4, 1), (0, -5, 7), (2, 2, 2))

    def nets(self):
        for moduli in ((2, 3, 2), (3, 2, 4)):
            for one, two, three in itertools.product((-2, -1, 0, 1, 3), repeat=3):
                wires = [wire for wire in ((0, 1, one), (0, 2, two), (1, 2, three)) if wire[2] != 0]
                yield make_net(*moduli, wires=tuple(wires))

    def cases(self):
        for net in self.nets():
            for state in itertools.product(*[(0, modulus - 1) for modulus in net[0]]):
                yield net, state

    def test_same_result_in_every_order(self):
        for net, state in self.cases():
            for vector in self.VECTORS:
                steps = steps_of(vector)
                wanted = results(net, state, vector)
                self.assertEqual(tick_by_tick(net, state, steps), wanted)
                self.assertEqual(tick_by_tick(net, state, steps[::-1]), wanted)
                self.assertEqual(tick_by_tick(net, state, steps[::2] + steps[1::2]), wanted)

    def test_every_state_of_some_nets(self):
        for net in (A, ((2, 3), ((0, 1, -1),), (0,)), ((5, 2), ((0, 1, 7),), (0,))):
            for state in itertools.product(*[range(modulus) for modulus in net[0]]):
                for entry in range(-25, 26):
                    vector = (entry, 0)
                    self.assertEqual(tick_by_tick(net, state, steps_of(vector)), results(net, state, vector))

    def test_two_vectors_have_the_effect_of_their_sum(self):
        for net, state in self.cases():
            for one, other in itertools.combinations(self.VECTORS, 2):
                total = tuple(x + y for x, y in zip(one, other))
                between = after(net, state, one)
                self.assertEqual(after(net, between, other), after(net, state, total))
                carried = zip(carries(net, state, one), carries(net, between, other))
                self.assertEqual(tuple(x + y for x, y in carried), carries(net, state, total))

    def test_the_opposite_leads_back(self):
        for net, state in self.cases():
            for vector in (*self.VECTORS, (BIG, -BIG, BIG)):
                opposite = tuple(-entry for entry in vector)
                between = after(net, state, vector)
                self.assertEqual(after(net, between, opposite), state)
                carried = carries(net, state, vector)
                self.assertEqual(carries(net, between, opposite), tuple(-count for count in carried))


class Refusals(unittest.TestCase):
    NET = ((4, 6, 5), ((0, 1, 3),), (0, 2))

    def is_wrong(self, net, phases, ticks, *wanted):
        for function in FUNCTIONS:
            self.assertEqual(told(function, net, phases, ticks), wanted, (net, phases, ticks))

    def test_ticks_of_other_kinds(self):
        for value in not_tuples():
            self.is_wrong(self.NET, (0, 0, 0), value, "InvalidTicks", None)
        self.is_wrong(A, (0, 0), [1, 0], "InvalidTicks", None)

    def test_other_numbers_of_entries(self):
        for value in ((), (1,), (1, 0), (1, 0, 1, 0), (None,)):
            self.is_wrong(self.NET, (0, 0, 0), value, "InvalidTicks", None)

    def test_a_wrong_entry_at_each_index(self):
        for index in range(3):
            for wrong in [*not_integers(), BIG + 1, -BIG - 1, 10 ** 999, -10 ** 999]:
                self.is_wrong(self.NET, (0, 0, 0), put((0, 0, 0), index, wrong), "InvalidTicks", index)

    def test_entries_at_counters_that_are_no_inputs(self):
        for wrong in (1, -1, BIG, -BIG):
            self.is_wrong(self.NET, (0, 0, 0), (1, wrong, 1), "InvalidTicks", 1)
            self.is_wrong((*self.NET[:2], ()), (0, 0, 0), (wrong, 0, 0), "InvalidTicks", 0)
            self.is_wrong((*self.NET[:2], (0,)), (0, 0, 0), (wrong, 0, wrong), "InvalidTicks", 2)

    def test_entries_just_inside_the_bounds(self):
        for entry in (BIG, -BIG):
            for function in FUNCTIONS:
                self.assertIsNone(told(function, self.NET, (0, 0, 0), (entry, 0, entry)))

    def test_smallest_index_first(self):
        self.is_wrong(self.NET, (0, 0, 0), (0, 1, None), "InvalidTicks", 1)
        self.is_wrong(self.NET, (0, 0, 0), (True, 1, None), "InvalidTicks", 0)

    def test_wrong_phases(self):
        for value in not_tuples():
            self.is_wrong(A, value, (0, 0), "InvalidPhases", None)
        self.is_wrong(A, (4, 6), (0, 0), "InvalidPhases", 0)
        self.is_wrong(A, (3, 6), (0, 0), "InvalidPhases", 1)
        self.is_wrong(A, (3, 5, 0), (0, 0), "InvalidPhases", None)

    def test_wrong_nets(self):
        for value in not_tuples():
            self.is_wrong(value, (0, 0), (0, 0), "InvalidNet", "form", None)
        self.is_wrong(((4, 6), ((1, 0, 3),), (0,)), (0, 0), (0, 0), "InvalidNet", "wires", 0)

    def test_the_order_of_errors(self):
        wrong_net = ((4, 6), ((0, 1, 3),), (0, 0))
        self.is_wrong(wrong_net, (9, 9), (0, 1), "InvalidNet", "inputs", 1)
        self.is_wrong(wrong_net, (0, 0), (0, 1), "InvalidNet", "inputs", 1)
        self.is_wrong(wrong_net, None, None, "InvalidNet", "inputs", 1)
        self.is_wrong(A, (0, 6), (0, 1), "InvalidPhases", 1)
        self.is_wrong(A, None, None, "InvalidPhases", None)
        self.is_wrong(A, (0, 5), (0, 1), "InvalidTicks", 1)


class Arguments(unittest.TestCase):
    def test_by_position_and_by_name(self):
        for function in FUNCTIONS:
            self.assertEqual(function(ticks=(10, 0), phases=(0, 0), net=A), function(A, (0, 0), (10, 0)))

    def test_a_second_call_returns_the_same(self):
        for function in FUNCTIONS:
            first = function(A, (3, 5), (-7, 0))
            self.assertEqual(function(A, (3, 5), (-7, 0)), first)

    def test_results_are_tuples_of_integers(self):
        for function in FUNCTIONS:
            result = function(A, (3, 5), (-7, 0))
            self.assertEqual([type(item) for item in (result, *result)], [tuple, int, int])


if __name__ == "__main__":
    unittest.main()
