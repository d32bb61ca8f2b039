"""Rates: 8.1 to 8.4."""

import math
import unittest
from fractions import Fraction

from carrynet.lattice import order_of
from carrynet.nets import opened
from carrynet.rates import carry_range, gains, offset_of, rate_of, spread
from tests.draws import Draw, large_nets, small_nets
from tests.helpers import A, TEN, all_states, leap, not_integers, not_tuples, put, scaled, steps_of, tick_by_tick, unit
from tests.refusals import InOrder

BIG = 10 ** 40
NET = ((4, 6, 5), ((0, 1, 3), (1, 2, -2)), (0, 2))


def listed_gains(net, output):
    """The rule of 8.2, from the last counter to the first one."""
    moduli, wires, _ = net
    found = {}
    for counter in reversed(range(len(moduli))):
        ticked = sum(w * found[v] for u, v, w in wires if u == counter)
        found[counter] = Fraction(ticked + (counter == output)) / moduli[counter]
    return [found[counter] for counter in range(len(moduli))]


def pair(number):
    """The fraction of the document for a number."""
    number = Fraction(number)
    return (number.numerator, number.denominator)


def product(one, other):
    return sum(first * second for first, second in zip(one, other, strict=True))


def has_path(net, counter, output):
    """Whether a path of wires leads from the counter to the output, or they are the same."""
    return counter == output or any(has_path(net, v, output) for u, v, _ in net[1] if u == counter)


def drawn_cases(seed, many):
    """Nets with a state, a vector and an output."""
    draw = Draw(seed)
    for net in small_nets(seed, many) + large_nets(seed, many):
        most = draw.choice((3, 100, BIG))
        yield net, draw.state(net), draw.vector(net, most), draw.number(0, len(net[0]) - 1)


class Gains(unittest.TestCase):
    def test_the_rule_for_each_output(self):
        for net in small_nets(1, 100) + large_nets(1, 40) + [A, TEN, NET]:
            for output in range(len(net[0])):
                wanted = tuple(pair(gain) for gain in listed_gains(net, output))
                self.assertEqual(gains(net, output), wanted)

    def test_lowest_terms(self):
        for net in small_nets(2, 50) + large_nets(2, 20):
            for output in range(len(net[0])):
                found = [*gains(net, output), spread(net, output)]
                for numerator, denominator in found:
                    self.assertEqual((type(numerator), type(denominator)), (int, int))
                    self.assertEqual(math.gcd(numerator, denominator), 1)
                    self.assertGreaterEqual(denominator, 1)

    def test_counters_without_a_path(self):
        without = 0
        for net in small_nets(3, 60, counters=5) + [NET, TEN]:
            for output in range(len(net[0])):
                for counter, gain in enumerate(gains(net, output)):
                    if not has_path(net, counter, output):
                        without += 1
                        self.assertEqual(gain, (0, 1))
        self.assertGreater(without, 100)

    def test_the_output_itself(self):
        for net in large_nets(4, 20) + [A, TEN]:
            for output, modulus in enumerate(net[0]):
                self.assertEqual(gains(net, output)[output], (1, modulus))

    def test_paths_that_cancel_each_other(self):
        net = ((3, 2, 5), ((0, 1, 2), (0, 2, -1), (1, 2, 1)), (0,))
        self.assertEqual(gains(net, 2), ((0, 1), (1, 10), (1, 5)))
        self.assertEqual((spread(net, 2), rate_of(net, (BIG, 0, 0), 2)), ((9, 10), (0, 1)))

    def test_whole_numbers(self):
        net = ((2, 2), ((0, 1, 100),), (0,))
        self.assertEqual((gains(net, 1), spread(net, 1)), (((25, 1), (1, 2)), (51, 2)))
        net = ((2, 1000), ((0, 1, -100),), (0,))
        self.assertEqual(gains(net, 1), ((-1, 20), (1, 1000)))

    def test_inputs_do_not_matter(self):
        for net in small_nets(5, 30) + large_nets(5, 10):
            for output in range(len(net[0])):
                self.assertEqual(gains(net, output), gains(opened(net), output))
                self.assertEqual(spread(net, output), spread(opened(net), output))

    def test_the_longest_chain(self):
        net = ((1000,) * 10, tuple((k, k + 1, 1) for k in range(9)), (0,))
        self.assertEqual(gains(net, 9), tuple((1, 1000 ** (10 - k)) for k in range(10)))
        self.assertEqual(spread(net, 9), (10 ** 30 - 1, 10 ** 30))


class Spreads(unittest.TestCase):
    """8.4."""

    def test_absolute_values_times_moduli_minus_one(self):
        for net in small_nets(11, 100) + large_nets(11, 40) + [A, TEN, NET]:
            for output in range(len(net[0])):
                wanted = sum(abs(gain) * (modulus - 1) for gain, modulus in zip(listed_gains(net, output), net[0]))
                self.assertEqual(spread(net, output), pair(wanted))

    def test_negative_gains_do_not_lower_it(self):
        self.assertEqual(spread(((2, 3), ((0, 1, -1),), (0,)), 1), (5, 6))
        self.assertEqual(spread(((2, 3), ((0, 1, 1),), (0,)), 1), (5, 6))


class RatesAndOffsets(unittest.TestCase):
    """8.3."""

    def test_sums_of_gains(self):
        for net, state, vector, output in drawn_cases(21, 100):
            self.assertEqual(rate_of(net, vector, output), pair(product(listed_gains(net, output), vector)))
            self.assertEqual(offset_of(net, state, output), pair(product(listed_gains(net, output), state)))

    def test_carries_are_the_rate_and_the_change_of_the_offset(self):
        for net, state, vector, _ in drawn_cases(22, 60):
            after, carried = leap(net, state, vector)
            for output, count in enumerate(carried):
                known = Fraction(*rate_of(net, vector, output)) + Fraction(*offset_of(net, state, output))
                self.assertEqual(known - Fraction(*offset_of(net, after, output)), count)

    def test_single_ticks_in_small_nets(self):
        draw = Draw(23)
        for net in small_nets(23, 40):
            for state in all_states(net)[::7]:
                vector = draw.vector(net, 6)
                _, carried, after = tick_by_tick(net, state, steps_of(vector))
                for output, count in enumerate(carried):
                    known = Fraction(*rate_of(net, vector, output)) + Fraction(*offset_of(net, state, output))
                    self.assertEqual(known - Fraction(*offset_of(net, after, output)), count)

    def test_opposite_vectors_and_no_ticks(self):
        for net, _, vector, output in drawn_cases(24, 30):
            numerator, denominator = rate_of(net, vector, output)
            self.assertEqual(rate_of(net, scaled(vector, -1), output), (-numerator, denominator))
            self.assertEqual(rate_of(net, scaled(vector, 0), output), (0, 1))
            self.assertEqual(offset_of(net, scaled(vector, 0), output), (0, 1))

    def test_greatest_entries(self):
        self.assertEqual(rate_of(A, (BIG, 0), 1), (BIG // 8, 1))
        self.assertEqual(rate_of(A, (-BIG, 0), 1), (-BIG // 8, 1))
        self.assertEqual(rate_of(A, (1 - BIG, 0), 1), (1 - BIG, 8))

    def test_as_often_as_the_order(self):
        for net, state, vector, output in drawn_cases(25, 60):
            order = order_of(net, vector)
            after, carried = leap(net, state, scaled(vector, order))
            self.assertEqual((after, carried[output]), (state, order * Fraction(*rate_of(net, vector, output))))


class Ranges(unittest.TestCase):
    """8.4."""

    def test_the_bounds(self):
        whole = {"least": 0, "greatest": 0, "negative": 0}
        for net, _, vector, output in drawn_cases(31, 150):
            for given in (vector, scaled(vector, 0), *[unit(net, counter, -7) for counter in net[2]]):
                rate = Fraction(*rate_of(net, given, output))
                reach = Fraction(*spread(net, output))
                wanted = (math.ceil(rate - reach), math.floor(rate + reach))
                self.assertEqual(carry_range(net, given, output), wanted)
                whole["least"] += wanted[0] == rate - reach
                whole["greatest"] += wanted[1] == rate + reach
                whole["negative"] += wanted[1] < 0
        self.assertGreater(min(whole.values()), 3)

    def test_whole_bounds_are_included(self):
        # The gains are 1/2 and 1/2, and the spread is 1.
        net = ((2, 2), ((0, 1, 2),), (0, 1))
        self.assertEqual((gains(net, 1), spread(net, 1)), (((1, 2), (1, 2)), (1, 1)))
        self.assertEqual(carry_range(net, (0, 0), 1), (-1, 1))
        self.assertEqual(carry_range(net, (1, 1), 1), (0, 2))
        self.assertEqual(carry_range(net, (-5, -1), 1), (-4, -2))
        self.assertEqual(carry_range(net, (0, 1), 1), (0, 1))
        self.assertEqual(carry_range(net, (0, -1), 1), (-1, 0))
        self.assertEqual(carry_range(((2,), (), (0,)), (1,), 0), (0, 1))
        self.assertEqual(carry_range(((2,), (), (0,)), (-3,), 0), (-2, -1))

    def test_the_carries_are_within(self):
        for net, state, vector, _ in drawn_cases(32, 60):
            for output, count in enumerate(leap(net, state, vector)[1]):
                least, greatest = carry_range(net, vector, output)
                self.assertLessEqual(least, count)
                self.assertLessEqual(count, greatest)

    def test_every_state_of_small_nets(self):
        for net in small_nets(33, 30, most=4):
            vector = Draw(33).vector(net, 9)
            for state in all_states(net):
                for output, count in enumerate(leap(net, state, vector)[1]):
                    least, greatest = carry_range(net, vector, output)
                    self.assertIn(count, range(least, greatest + 1))


class Refusals(InOrder):
    OF_VECTORS = (rate_of, carry_range)

    def test_in_order(self):
        nets = [("net", None, ("InvalidNet", "form", None)), ("net", (*NET[:2], (3,)), ("InvalidNet", "inputs", 0))]
        outputs = [("output", wrong, ("InvalidCounter", wrong)) for wrong in (3, -1, True, None, "0", (0,))]
        vectors = [("vector", wrong, ("InvalidTicks", index)) for wrong, index in (
            ((0, 0), None), ([0, 0, 0], None), ((BIG + 1, 1, 0), 0), ((0, 1, 0), 1), ((0, 0, None), 2))]
        phases = [("phases", wrong, ("InvalidPhases", index)) for wrong, index in (
            ((0, 0), None), ([0, 0, 0], None), ((4, 6, 0), 0), ((0, -1, 0), 1), ((0, 0, True), 2))]
        for function in (gains, spread):
            self.refuses_in_order(function, {"net": NET, "output": 2}, [*nets, *outputs])
        for function in self.OF_VECTORS:
            right = {"net": NET, "vector": (BIG, 0, -BIG), "output": 2}
            self.refuses_in_order(function, right, [*nets, *vectors, *outputs])
        right = {"net": NET, "phases": (3, 5, 4), "output": 2}
        self.refuses_in_order(offset_of, right, [*nets, *phases, *outputs])

    def test_wrong_kinds(self):
        for value in not_tuples():
            for function in (gains, spread):
                self.tells(function, {"net": value, "output": value}, ("InvalidNet", "form", None))
            for function in self.OF_VECTORS:
                self.tells(function, {"net": NET, "vector": value, "output": value}, ("InvalidTicks", None))
            self.tells(offset_of, {"net": NET, "phases": value, "output": value}, ("InvalidPhases", None))

    def test_wrong_outputs(self):
        for net in (NET, A, TEN):
            zeros = (0,) * len(net[0])
            for wrong in [*not_integers(), -1, len(net[0]), 10 ** 999, -10 ** 999]:
                wanted = ("InvalidCounter", wrong)
                for function in (gains, spread):
                    self.tells(function, {"net": net, "output": wrong}, wanted)
                for function in self.OF_VECTORS:
                    self.tells(function, {"net": net, "vector": zeros, "output": wrong}, wanted)
                self.tells(offset_of, {"net": net, "phases": zeros, "output": wrong}, wanted)

    def test_wrong_entries(self):
        for index in range(3):
            for wrong in [*not_integers(), BIG + 1, -BIG - 1]:
                for function in self.OF_VECTORS:
                    vector = put((1, 0, 1), index, wrong)
                    self.tells(function, {"net": NET, "vector": vector, "output": 0}, ("InvalidTicks", index))
            for wrong in [*not_integers(), -1, NET[0][index]]:
                phases = put((0, 0, 0), index, wrong)
                self.tells(offset_of, {"net": NET, "phases": phases, "output": 0}, ("InvalidPhases", index))


if __name__ == "__main__":
    unittest.main()
