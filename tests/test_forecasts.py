"""Forecasts: 9.1, 9.2, and the first outputs to carry."""

import itertools
import math
import unittest
from fractions import Fraction

from carrynet import forecasts as module
from carrynet.forecasts import first_to_carry, forecast
from carrynet.nets import chain
from carrynet.rates import gains, spread
from tests.draws import Draw, large_nets, positive, small_nets, with_inputs
from tests.helpers import A, TEN, all_states, leap, not_integers, not_tuples, told, unit
from tests.refusals import InOrder

MOST = 1000000
# Counter 1 is no input, and nothing leads to counter 2.
NET = ((4, 6, 5, 3), ((0, 1, 3), (1, 3, 1), (2, 3, 2)), (0, 2))
NEGATIVE = ((4, 6, 5, 3), ((0, 1, 3), (1, 3, -1), (2, 3, -2)), (0, 2))


def ticked(net, state, counter, output, count, most=400):
    """The least number of single ticks for so many carries, or None if it is not found with so many ticks."""
    carried = 0
    for number in range(1, most + 1):
        state, carries = leap(net, state, unit(net, counter))
        carried += carries[output]
        if carried >= count:
            return number
    return None


def carries_after(net, state, counter, output, times):
    return leap(net, state, unit(net, counter, times))[1][output]


class SmallNets(unittest.TestCase):
    def test_every_state(self):
        known = []
        for net in map(positive, small_nets(1, 15, most=4)):
            for state in all_states(net):
                for counter, output in itertools.product(net[2], repeat=2):
                    for count in (1, 2, 5) if gains(net, output)[counter] != (0, 1) else (1,):
                        wanted = ticked(net, state, counter, output, count)
                        self.assertEqual(forecast(net, state, counter, output, count=count), wanted)
                        known.append(wanted)
        self.assertIn(None, known)
        self.assertIn(1, known)

    def test_more_carries(self):
        draw = Draw(2)
        for net in map(positive, small_nets(2, 60)):
            for _ in range(5):
                state = draw.state(net)
                counter, output = draw.choice(net[2]), draw.choice(net[2])
                for count in (1, 2, 3, draw.number(4, 20)):
                    wanted = ticked(net, state, counter, output, count, most=2500)
                    self.assertEqual(forecast(net, state, counter, output, count=count), wanted)

    def test_several_carries_in_one_tick(self):
        net = ((2, 3), ((0, 1, 100),), (0,))
        self.assertEqual([forecast(net, (0, 0), 0, 1, count=count) for count in (1, 33, 34, 66, 67)], [2, 2, 4, 4, 6])
        self.assertEqual([forecast(net, (1, 2), 0, 1, count=count) for count in (1, 34, 35, 67)], [1, 1, 3, 3])


class LargeNets(unittest.TestCase):
    def test_reached_at_the_forecast_and_not_before(self):
        draw = Draw(11)
        found = 0
        for net in map(positive, large_nets(11, 60)):
            for _ in range(4):
                state = draw.state(net)
                counter, output = draw.number(0, 9), draw.number(0, 9)
                for count in (1, 2, MOST, draw.number(1, MOST)):
                    times = forecast(net, state, counter, output, count=count)
                    if times is None:
                        self.assertEqual(gains(net, output)[counter], (0, 1))
                    else:
                        found += 1
                        self.assertGreaterEqual(carries_after(net, state, counter, output, times), count)
                        self.assertLess(carries_after(net, state, counter, output, times - 1), count)
                        # 9.2
                        most = (count + Fraction(*spread(net, output))) / Fraction(*gains(net, output)[counter])
                        self.assertLessEqual(times, math.ceil(most))
        self.assertGreater(found, 200)

    def test_the_longest_chain(self):
        net = chain(*[1000] * 10)
        zeros = (0,) * 10
        self.assertEqual(forecast(net, zeros, 0, 9), 10 ** 30)
        self.assertEqual(forecast(net, (999,) * 10, 0, 9), 1)
        self.assertEqual(forecast(net, (999,) * 10, 0, 9, count=MOST), 10 ** 30 * (MOST - 1) + 1)
        self.assertEqual(forecast(net, (1,) + zeros[1:], 0, 9, count=MOST), 10 ** 36 - 1)

    def test_great_gains_of_other_counters(self):
        # The gain of the input is tiny beside those of the counters that it does not tick.
        wires = [(0, 9, 1), *[(u, v, 100) for u in range(1, 9) for v in range(u + 1, 10)]]
        net = ((1000, *[2] * 8, 1000), tuple(sorted(wires)), (0,))
        self.assertEqual(forecast(net, (0,) * 10, 0, 9), 10 ** 6)
        self.assertEqual(forecast(net, (999, *[1] * 8, 999), 0, 9, count=3), 2 * 10 ** 6 + 1)
        self.assertEqual(forecast(net, (0, *[1] * 8, 0), 0, 9, count=MOST), 10 ** 12)


class Edges(unittest.TestCase):
    def test_no_path(self):
        zeros = (0, 0, 0, 0)
        self.assertEqual(forecast(NET, zeros, 0, 2), None)
        self.assertEqual(forecast(NET, (3, 5, 4, 2), 2, 1, count=MOST), None)
        self.assertEqual(forecast(with_inputs(NET, (0, 1, 2, 3)), (3, 5, 4, 2), 3, 0), None)
        self.assertEqual(forecast(NET, zeros, 0, 3), 24)
        self.assertEqual(forecast(NET, zeros, 2, 3), 10)

    def test_the_input_itself(self):
        for modulus in (2, 3, 7, 1000):
            net = ((modulus, 5), ((0, 1, 3),), (0, 1))
            for phase in {0, 1, modulus - 1}:
                for count in (1, 2, 999999, MOST):
                    self.assertEqual(forecast(net, (phase, 4), 0, 0, count=count), count * modulus - phase)

    def test_once_without_a_count(self):
        self.assertEqual(forecast(A, (3, 5), 0, 1), forecast(A, (3, 5), 0, 1, count=1))

    def test_most_carries(self):
        self.assertEqual((module.MOST_CARRIES, type(module.MOST_CARRIES)), (MOST, int))


class First(unittest.TestCase):
    def test_against_forecasts(self):
        draw = Draw(31)
        ties = silent = 0
        for net in map(positive, small_nets(31, 60, counters=4) + large_nets(31, 20)):
            for _ in range(6):
                state = draw.state(net)
                counter = draw.choice(net[2])
                outputs = tuple(draw.choice(net[2]) for _ in range(draw.number(1, 6)))
                for given in (outputs, outputs[::-1], ()):
                    known = {output: forecast(net, state, counter, output) for output in given or net[2]}
                    times = [number for number in known.values() if number is not None]
                    wanted = None
                    if times:
                        wanted = (min(times), tuple(sorted(out for out in known if known[out] == min(times))))
                        ties += len(wanted[1]) > 1
                    self.assertEqual(first_to_carry(net, state, counter, *given), wanted)
                    silent += wanted is None
        self.assertGreater(min(ties, silent), 10)

    def test_repeated_outputs(self):
        self.assertEqual(first_to_carry(NET, (0, 0, 0, 0), 0, 3, 1, 3, 1, 1), (8, (1,)))
        self.assertEqual(first_to_carry(A, (0, 0), 0, *[1] * 2000), (8, (1,)))
        self.assertEqual(first_to_carry(A, (3, 5), 0, *[1, 0] * 1000), (1, (0, 1)))

    def test_outputs_that_tie(self):
        self.assertEqual(first_to_carry(NET, (3, 5, 4, 2), 0, 3, 2, 1, 0), (1, (0, 1, 3)))
        self.assertEqual(first_to_carry(NET, (3, 5, 4, 2), 0, 3, 1), (1, (1, 3)))
        self.assertEqual(first_to_carry(NET, (3, 5, 4, 0), 0), (1, (0, 1)))

    def test_outputs_without_a_forecast(self):
        self.assertEqual(first_to_carry(NET, (0, 0, 0, 0), 2, 0, 1, 3), (10, (3,)))
        self.assertIsNone(first_to_carry(NET, (3, 5, 4, 2), 2, 0, 1))
        self.assertIsNone(first_to_carry(NET, (3, 5, 4, 2), 0, 2))

    def test_no_outputs_are_all_counters(self):
        self.assertEqual(first_to_carry(NET, (2, 5, 4, 2), 0), (2, (0, 1, 3)))
        self.assertEqual(first_to_carry(NET, (2, 5, 0, 2), 2), (5, (2, 3)))
        self.assertEqual(first_to_carry(((7,), (), (0,)), (5,), 0), (2, (0,)))


def first_of_outputs(net, phases, counter, outputs):
    return first_to_carry(net, phases, counter, *outputs)


STATES = [("phases", wrong, ("InvalidPhases", index)) for wrong, index in (
    (None, None), ((0, 0, 0), None), ([0, 0, 0, 0], None), ((4, 6, 0, 0), 0), ((0, 0, 0, True), 3))]
NETS = [("net", None, ("InvalidNet", "form", None)), ("net", (*NET[:2], (4,)), ("InvalidNet", "inputs", 0))]
SIGNS = [("net", NEGATIVE, ("NotPositive", 1))]
COUNTERS = [("counter", wrong, ("InvalidCounter", wrong)) for wrong in (4, -1, True, None, "0")]
INPUTS = [("counter", 1, ("NotAnInput", 1)), ("counter", 3, ("NotAnInput", 3))]


class Refusals(InOrder):
    RIGHT = {"net": NET, "phases": (3, 5, 4, 2), "counter": 2, "output": 3}

    def test_forecast_in_order(self):
        outputs = [("output", wrong, ("InvalidCounter", wrong)) for wrong in (4, -1, False, None, (0,))]
        counts = [("count", wrong, ("InvalidTimes", wrong)) for wrong in (0, MOST + 1, True, None, "1")]
        faults = [*NETS, *STATES, *SIGNS, *COUNTERS, *INPUTS, *outputs, *counts]
        self.refuses_in_order(forecast, {**self.RIGHT, "count": MOST}, faults)

    def test_first_to_carry_in_order(self):
        outputs = [("outputs", wrong, ("InvalidCounter", value)) for wrong, value in (
            ((4,), 4), ((0, -1, None), -1), ((1, 2, 3, True, 9), True), ((None, 0), None))]
        faults = [*NETS, *STATES, *SIGNS, *COUNTERS, *INPUTS, *outputs]
        right = {"net": NET, "phases": (3, 5, 4, 2), "counter": 2, "outputs": (3, 1)}
        self.refuses_in_order(first_of_outputs, right, faults)

    def test_counts(self):
        for wrong in [*not_integers(), 0, -1, MOST + 1, 10 ** 999, -10 ** 999]:
            self.tells(forecast, {**self.RIGHT, "count": wrong}, ("InvalidTimes", wrong))
            # Also if there is no forecast.
            self.tells(forecast, {**self.RIGHT, "output": 0, "count": wrong}, ("InvalidTimes", wrong))
        for count in (1, 2, MOST - 1, MOST):
            self.tells(forecast, {**self.RIGHT, "count": count}, None)
        self.assertEqual(told(forecast, NET, (0,) * 4, 0, 1, 2)[0], "TypeError")

    def test_outputs_and_counters(self):
        for wrong in [*not_integers(), -1, 4, 10 ** 999]:
            wanted = ("InvalidCounter", wrong)
            self.tells(forecast, {**self.RIGHT, "output": wrong}, wanted)
            self.tells(forecast, {**self.RIGHT, "counter": wrong, "output": None}, wanted)
            self.assertEqual(told(first_to_carry, NET, (0,) * 4, wrong), wanted)
            self.assertEqual(told(first_to_carry, NET, (0,) * 4, 0, 1, wrong, 5), wanted)

    def test_wrong_kinds(self):
        for value in not_tuples():
            for function in (forecast, first_to_carry):
                self.assertEqual(told(function, value, value, value, value), ("InvalidNet", "form", None))
                self.assertEqual(told(function, NEGATIVE, value, value, value), ("InvalidPhases", None))

    def test_the_first_negative_weight(self):
        for wires, index in ((((0, 1, -1), (0, 2, -1)), 0), (((0, 1, 1), (0, 2, -100), (1, 2, -1)), 1),
                             (((0, 1, 1), (0, 2, 1), (1, 2, -1)), 2)):
            net = ((2, 2, 2), wires, (0,))
            for function in (forecast, first_to_carry):
                self.assertEqual(told(function, net, (0, 0, 0), None, None), ("NotPositive", index))
                # Wires that do not lead to the output count, too.
                self.assertEqual(told(function, net, (0, 0, 0), 0, 0), ("NotPositive", index))

    def test_nets_without_inputs(self):
        self.assertEqual(told(forecast, TEN, (0,) * 10, 0, 0), ("NotAnInput", 0))
        self.assertEqual(told(first_to_carry, TEN, (0,) * 10, 9), ("NotAnInput", 9))


if __name__ == "__main__":
    unittest.main()
