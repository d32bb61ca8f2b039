"""Differences, invariants and ways: 6.1 to 6.5."""

import fractions
import itertools
import math
import unittest

from carrynet.lattice import basis, class_count, remainder
from carrynet.nets import opened
from carrynet.reaching import check_way, difference, invariants, is_invariant, value_of, way
from carrynet.ticks import after
from tests.draws import Draw, large_nets, small_nets, with_inputs
from tests.helpers import (A, TEN, all_states, leap, nested, not_integers, not_tuples, put, searched, told, total, unit)

BIG = 10 ** 40
NET = ((4, 6, 5), ((0, 1, 3),), (0, 2))


def zero(net):
    return (0,) * len(net[0])


def is_listed_invariant(net, factors, modulus):
    """6.2 for factors and a modulus within their bounds."""
    moduli, wires, inputs = net
    for counter, factor in enumerate(factors):
        carried = sum(w * factors[v] for u, v, w in wires if u == counter)
        if (moduli[counter] * factor - carried) % modulus != 0 or (counter in inputs and factor != 0):
            return False
    return True


def listed_group_basis(net):
    """The basis of G in 6.4, found from the states to which vectors in G lead from 0."""
    members = set(searched(net, zero(net)))
    found = []
    within = [zero(net)]
    for counter in reversed(range(len(net[0]))):
        pivot = 0
        fitting = []
        while not fitting:
            pivot += 1
            longer = [total(vector, unit(net, counter, pivot)) for vector in within]
            fitting = [vector for vector in longer if leap(net, zero(net), vector)[0] in members]
        found.append(fitting[0])
        within = [total(vector, unit(net, counter, entry)) for vector in within for entry in range(pivot)]
    return found[::-1]


def listed_invariants(net):
    """The standard invariants of 6.4, from the basis of G."""
    rows = listed_group_basis(net)
    coefficients = []
    for counter, row in enumerate(rows):
        of_units = []
        for unit_counter in range(len(rows)):
            entry = fractions.Fraction(unit_counter == counter)
            for before in range(counter):
                entry -= coefficients[before][unit_counter] * rows[before][counter]
            of_units.append(entry / row[counter])
        coefficients.append(of_units)
    found = []
    for of_units in coefficients:
        modulus = math.lcm(*[entry.denominator for entry in of_units])
        if modulus >= 2:
            found.append((tuple(int(entry * modulus) % modulus for entry in of_units), modulus))
    return tuple(found)


class Differences(unittest.TestCase):
    """6.1."""

    def test_it_leads_there_within_the_moduli(self):
        draw = Draw(1)
        for net in small_nets(1, 200, most=9) + large_nets(1, 100):
            start, goal = draw.state(net), draw.state(net)
            vector = difference(net, start, goal)
            self.assertEqual(leap(net, start, vector)[0], goal)
            for entry, modulus in zip(vector, net[0], strict=True):
                self.assertIn(entry, range(modulus))

    def test_it_is_the_only_one_in_small_nets(self):
        for net in small_nets(2, 25, most=4):
            states = all_states(net)
            for start in states[::5]:
                leading = {leap(net, start, vector)[0]: vector for vector in states}
                self.assertEqual({goal: difference(net, start, goal) for goal in states}, leading)

    def test_it_does_not_depend_on_the_inputs(self):
        draw = Draw(3)
        for net in small_nets(3, 50) + large_nets(3, 20):
            start, goal = draw.state(net), draw.state(net)
            wanted = difference(opened(net), start, goal)
            self.assertEqual(after(opened(net), start, wanted), goal)
            for inputs in ((), (0,), net[2]):
                self.assertEqual(difference(with_inputs(net, inputs), start, goal), wanted)

    def test_from_a_state_to_itself(self):
        for net in (A, NET, TEN):
            self.assertEqual(difference(net, zero(net), zero(net)), zero(net))
            self.assertEqual(difference(net, (1,) * len(net[0]), (1,) * len(net[0])), zero(net))


class Invariants(unittest.TestCase):
    """6.2."""

    def test_all_pairs_in_small_nets(self):
        right = 0
        for net in small_nets(11, 60):
            for modulus in (2, 3, 4, 6):
                for factors in itertools.product(range(modulus), repeat=len(net[0])):
                    wanted = is_listed_invariant(net, factors, modulus)
                    self.assertIs(is_invariant(net, (factors, modulus)), wanted)
                    right += wanted and any(factors)
        self.assertGreater(right, 100)

    def test_each_single_change_of_right_ones(self):
        changed = []
        for net in small_nets(12, 150) + large_nets(12, 40):
            for factors, modulus in invariants(net):
                self.assertIs(is_invariant(net, (factors, modulus)), True)
                for index in range(len(factors)):
                    for factor in ((factors[index] + 1) % modulus, (factors[index] - 1) % modulus, 0):
                        pair = (put(factors, index, factor), modulus)
                        changed.append(is_listed_invariant(net, *pair))
                        self.assertIs(is_invariant(net, pair), changed[-1])
                    for wrong in [*not_integers(), -1, modulus, factors[index] - modulus, factors[index] + modulus]:
                        self.assertIs(is_invariant(net, (put(factors, index, wrong), modulus)), False)
                for other in (modulus + 1, modulus - 1, modulus * 2):
                    if other >= 2 and all(factor < other for factor in factors):
                        self.assertIs(is_invariant(net, (factors, other)), is_listed_invariant(net, factors, other))
        self.assertIn(False, changed)

    def test_factors_that_are_all_zero(self):
        for net in (A, NET, TEN, opened(NET)):
            for modulus in (2, 3, 10 ** 30, BIG):
                self.assertIs(is_invariant(net, (zero(net), modulus)), True)
                self.assertEqual(value_of(net, (1,) * len(net[0]), (zero(net), modulus)), 0)

    def test_bounds_of_the_modulus(self):
        for wrong in (0, 1, -1, -2, BIG + 1, 10 ** 999, -10 ** 999, True, None, "3", (3,), [3], 2j):
            for factors in ((0, 0), (0, 1), (1, 0), None):
                self.assertIs(is_invariant(A, (factors, wrong)), False)
        net = ((2,), (), ())
        self.assertIs(is_invariant(net, ((BIG // 2,), BIG)), True)
        self.assertIs(is_invariant(net, ((BIG // 2 + 1,), BIG)), False)
        self.assertIs(is_invariant(net, ((BIG // 2 + 1,), BIG + 2)), False)
        self.assertIs(is_invariant(net, ((1,), 2)), True)

    def test_factors_at_inputs(self):
        self.assertIs(is_invariant(((4,), (), ()), ((1,), 4)), True)
        self.assertIs(is_invariant(((4,), (), (0,)), ((1,), 4)), False)

    def test_values_of_other_kinds(self):
        right = ((0, 1), 3)
        self.assertIs(is_invariant(A, right), True)
        for value in [*not_tuples(), list(right), [(0, 1), 3], nested(20)]:
            self.assertIs(is_invariant(A, value), False)
            self.assertIs(is_invariant(A, (value, 3)), False)
            self.assertIs(is_invariant(A, (value, value)), False)
        for value in not_integers():
            self.assertIs(is_invariant(A, ((0, 1), value)), False)
            self.assertIs(is_invariant(A, ((0, value), 3)), False)
        self.assertIs(is_invariant(A, ((False, True), 3)), False)
        self.assertIs(is_invariant(A, ([0, 1], 3)), False)

    def test_other_numbers_of_items(self):
        for value in ((), ((0, 1),), ((0, 1), 3, 3), (0, 1, 3), ((0,), 3), ((0, 1, 0), 3), ((), 3), (3, (0, 1)),
                      ("ticks", ((0, 1), 3))):
            self.assertIs(is_invariant(A, value), False)

    def test_the_net_comes_first(self):
        for value in not_tuples():
            self.assertEqual(told(is_invariant, value, value), ("InvalidNet", "form", None))
        self.assertEqual(told(is_invariant, (*A[:2], (2,)), ((0, 1), 3)), ("InvalidNet", "inputs", 0))


class Values(unittest.TestCase):
    """6.2, 6.3."""

    def test_sums(self):
        for net in small_nets(21, 60):
            for factors, modulus in invariants(net):
                for state in all_states(net):
                    wanted = sum(factor * phase for factor, phase in zip(factors, state)) % modulus
                    self.assertEqual(value_of(net, state, (factors, modulus)), wanted)

    def test_ticks_do_not_change_them(self):
        draw = Draw(22)
        for net in small_nets(22, 60) + large_nets(22, 40):
            state = draw.state(net)
            for pair in invariants(net):
                self.assertEqual(value_of(net, leap(net, state, draw.vector(net))[0], pair),
                                 value_of(net, state, pair))

    def test_an_invariant_that_is_not_standard(self):
        self.assertEqual([value_of(A, (3, phase), ((0, 2), 6)) for phase in range(6)], [0, 2, 4, 0, 2, 4])
        self.assertEqual([value_of(A, (3, phase), ((0, 2), 3)) for phase in range(6)], [0, 2, 1, 0, 2, 1])

    def test_what_is_no_invariant(self):
        for value in [*not_tuples(), ((0, 1), 4), ((1, 1), 3), ((0, 3), 3), ((0, 1), True), ((0,), 3), ((0, 0), 1),
                      ((0, 0), BIG + 1), [(0, 1), 3]]:
            self.assertEqual(told(value_of, A, (0, 0), value), ("InvalidAnswer", "invariant"))

    def test_the_order_of_errors(self):
        self.assertEqual(told(value_of, (*A[:2], (0, 0)), None, None), ("InvalidNet", "inputs", 1))
        self.assertEqual(told(value_of, A, (4, 0), None), ("InvalidPhases", 0))
        for value in not_tuples():
            self.assertEqual(told(value_of, value, value, value), ("InvalidNet", "form", None))
            self.assertEqual(told(value_of, A, value, value), ("InvalidPhases", None))
            self.assertEqual(told(value_of, A, value, ((0, 1), 3)), ("InvalidPhases", None))


class StandardInvariants(unittest.TestCase):
    """6.4."""

    def test_against_the_definition(self):
        several = 0
        for net in small_nets(31, 250, most=4) + small_nets(32, 40, counters=5, most=3):
            self.assertEqual(invariants(net), listed_invariants(net), net)
            several += len(invariants(net)) >= 2
        self.assertGreater(several, 50)

    def test_all_choices_of_inputs(self):
        wires = ((0, 1, 3), (0, 2, -1), (1, 2, 2), (1, 3, 1), (2, 3, -4))
        for size in range(5):
            for inputs in itertools.combinations(range(4), size):
                net = ((4, 6, 2, 3), wires, inputs)
                self.assertEqual(invariants(net), listed_invariants(net), net)

    def test_large_ones_are_invariants(self):
        greatest = 0
        for net in large_nets(33, 100):
            for pair in invariants(net):
                self.assertIs(is_invariant(net, pair), True)
                greatest = max(greatest, pair[1])
        self.assertGreater(greatest, 10 ** 9)

    def test_a_chain_without_inputs(self):
        net = ((1000,) * 10, tuple((k, k + 1, 1) for k in range(9)), ())
        self.assertEqual(len(invariants(net)), 10)
        factors, modulus = invariants(net)[-1]
        self.assertEqual(modulus, 10 ** 30)
        # Each basis vector has 1000 at its counter and 999 behind it.
        self.assertEqual(factors, (*[10 ** 30 - 999 * 10 ** (3 * k) for k in range(9)], 10 ** 27))
        self.assertIs(is_invariant(net, (tuple(10 ** (3 * k) for k in range(10)), 10 ** 30)), True)

    def test_none(self):
        for net in (opened(A), opened(TEN), ((2,), (), (0,)), ((4, 3), ((0, 1, 1),), (0,))):
            self.assertEqual(invariants(net), ())

    def test_wrong_nets(self):
        for value in not_tuples():
            self.assertEqual(told(invariants, value), ("InvalidNet", "form", None))
        self.assertEqual(told(invariants, (*A[:2], (0, 0))), ("InvalidNet", "inputs", 1))


class Ways(unittest.TestCase):
    """6.5 and the interface."""

    def is_way(self, net, start, goal, does_reach):
        word, found = way(net, start, goal)
        if does_reach:
            self.assertEqual(word, "ticks")
            self.assertEqual(after(net, start, found), goal)
            self.assertEqual(remainder(net, found), found)
        else:
            differing = [pair for pair in invariants(net) if value_of(net, start, pair) != value_of(net, goal, pair)]
            self.assertEqual((word, found), ("invariant", differing[0]))
        self.assertEqual(check_way(net, start, goal, (word, found)), word)

    def test_between_all_states_of_small_nets(self):
        for net in small_nets(41, 60, most=4):
            for start in all_states(net)[::7]:
                members = searched(net, start)
                for goal in all_states(net):
                    self.is_way(net, start, goal, goal in members)

    def test_after_great_ticks_in_large_nets(self):
        draw = Draw(42)
        for net in large_nets(42, 120):
            start, vector = draw.state(net), draw.vector(net)
            goal = leap(net, start, vector)[0]
            self.is_way(net, start, goal, True)
            self.assertEqual(way(net, start, goal), ("ticks", remainder(net, vector)))
            self.assertEqual(way(net, start, start), ("ticks", zero(net)))

    def test_between_drawn_states_of_large_nets(self):
        draw = Draw(43)
        refused = 0
        for net in large_nets(43, 120):
            start, goal = draw.state(net), draw.state(net)
            differ = any(value_of(net, start, pair) != value_of(net, goal, pair) for pair in invariants(net))
            self.is_way(net, start, goal, not differ)
            refused += differ
            self.assertIs(class_count(net) == 1 and differ, False)
        self.assertGreater(refused, 50)

    def test_the_first_invariant_that_differs(self):
        net = ((2, 3, 5), (), ())
        first, second, third = invariants(net)
        self.assertEqual(way(net, (0, 0, 0), (1, 1, 1)), ("invariant", first))
        self.assertEqual(way(net, (0, 0, 0), (0, 1, 1)), ("invariant", second))
        self.assertEqual(way(net, (0, 0, 0), (0, 0, 1)), ("invariant", third))
        self.assertEqual(way(net, (0, 0, 0), (0, 0, 0)), ("ticks", (0, 0, 0)))

    def test_all_inputs(self):
        draw = Draw(44)
        for net in large_nets(44, 40):
            net = opened(net)
            self.is_way(net, draw.state(net), draw.state(net), True)

    def test_one_input(self):
        for net in small_nets(45, 30):
            net = with_inputs(net, (0,))
            pivot = basis(net)[0][0]
            for times in range(-pivot, 2 * pivot):
                goal = leap(net, zero(net), unit(net, 0, times))[0]
                self.assertEqual(way(net, zero(net), goal), ("ticks", unit(net, 0, times % pivot)))


class Refusals(unittest.TestCase):
    def test_wrong_arguments_in_their_order(self):
        for function in (difference, way):
            for value in not_tuples():
                self.assertEqual(told(function, value, value, value), ("InvalidNet", "form", None))
                self.assertEqual(told(function, A, value, (None, 0)), ("InvalidPhases", None))
                self.assertEqual(told(function, A, (0, 6), value), ("InvalidPhases", 1))
                self.assertEqual(told(function, A, (0, 0), value), ("InvalidPhases", None))
            for wrong in [*not_integers(), -1, 4]:
                self.assertEqual(told(function, A, (0, 0), (wrong, 9)), ("InvalidPhases", 0))
                self.assertEqual(told(function, A, (wrong, 9), (0, 0)), ("InvalidPhases", 0))
            self.assertEqual(told(function, A, (0, 9), (9, 9)), ("InvalidPhases", 1))
            self.assertEqual(told(function, (*A[:2], (2,)), (0, 9), (9, 9)), ("InvalidNet", "inputs", 0))

    def test_by_position_and_by_name(self):
        self.assertEqual(difference(goal=(1, 0), start=(3, 5), net=A), (2, 4))
        self.assertEqual(way(goal=(1, 3), start=(0, 0), net=A), ("ticks", (5, 0)))
        self.assertIs(is_invariant(value=((0, 1), 3), net=A), True)
        self.assertEqual(value_of(invariant=((0, 1), 3), phases=(2, 5), net=A), 2)
        self.assertEqual(invariants(net=A), (((0, 1), 3),))


if __name__ == "__main__":
    unittest.main()
