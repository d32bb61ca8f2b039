"""The ticks in which an output carries: 9.1, 9.2, 2.7."""

import inspect
import itertools
import unittest

from carrynet.forecasts import carry_ticks, forecast
from carrynet.nets import chain
from tests.draws import Draw, large_nets, positive, small_nets
from tests.helpers import A, TEN, all_states, first_of, leap, not_integers, told, unit
from tests.refusals import InOrder
from tests.test_forecasts import COUNTERS, INPUTS, NEGATIVE, NET, NETS, SIGNS, STATES

MOST = 10 ** 12


def ticked(net, state, counter, output, last):
    """The carries of the output in single ticks."""
    found = []
    for number in range(1, last + 1):
        state, carried = leap(net, state, unit(net, counter))
        if carried[output] != 0:
            found.append((number, carried[output]))
    return found


class SingleTicks(unittest.TestCase):
    def test_drawn_nets(self):
        draw = Draw(1)
        some = 0
        for net in map(positive, small_nets(1, 60, counters=4) + large_nets(1, 20)):
            for last in (0, 1, 2, 120):
                state = draw.state(net)
                counter, output = draw.choice(net[2]), draw.choice(net[2])
                wanted = ticked(net, state, counter, output, last)
                self.assertEqual(list(carry_ticks(net, state, counter, output, last=last)), wanted)
                some += len(wanted)
        self.assertGreater(some, 500)

    def test_every_state_of_small_nets(self):
        for net in map(positive, small_nets(2, 12, most=3)):
            for state in all_states(net):
                for counter, output in itertools.product(net[2], repeat=2):
                    wanted = ticked(net, state, counter, output, 30)
                    self.assertEqual(list(carry_ticks(net, state, counter, output, last=30)), wanted)

    def test_great_weights(self):
        net = ((2, 3, 7), ((0, 1, 100), (0, 2, 1), (1, 2, 99)), (0,))
        for output in range(3):
            self.assertEqual(list(carry_ticks(net, (1, 1, 6), 0, output, last=500)),
                             ticked(net, (1, 1, 6), 0, output, 500))


class Bounds(unittest.TestCase):
    def test_the_last_tick_is_included(self):
        for last, wanted in ((3, []), (4, [(4, 1)]), (7, [(4, 1)]), (8, [(4, 1), (8, 1)])):
            self.assertEqual(list(carry_ticks(A, (0, 0), 0, 0, last=last)), wanted)
        self.assertEqual(list(carry_ticks(A, (3, 5), 0, 1, last=0)), [])
        self.assertEqual(list(carry_ticks(A, (3, 5), 0, 1, last=1)), [(1, 1)])

    def test_rare_carries(self):
        net = chain(1000, 1000, 1000, 1000, 1000)
        zeros = (0,) * 5
        self.assertEqual(list(carry_ticks(net, zeros, 0, 3, last=MOST)), [(MOST, 1)])
        self.assertEqual(list(carry_ticks(net, zeros, 0, 3, last=MOST - 1)), [])
        self.assertEqual(list(carry_ticks(net, (1,) + zeros[1:], 0, 3, last=MOST)), [(MOST - 1, 1)])
        self.assertEqual(list(carry_ticks(net, (999,) * 5, 0, 4, last=MOST)), [(1, 1)])
        self.assertEqual(list(carry_ticks(net, zeros, 0, 4, last=MOST)), [])
        known = [(10 ** 9 * count, 1) for count in range(1, 1001)]
        self.assertEqual(list(carry_ticks(net, zeros, 0, 2, last=MOST)), known)

    def test_no_path(self):
        self.assertEqual(list(carry_ticks(NET, (3, 5, 4, 2), 0, 2, last=MOST)), [])
        self.assertEqual(list(carry_ticks(NET, (3, 5, 4, 2), 2, 1, last=0)), [])

    def test_a_caller_that_stops_early(self):
        draw = Draw(11)
        for net in map(positive, large_nets(11, 30)):
            state = draw.state(net)
            counter, output = draw.number(0, 4), draw.number(5, 9)
            found = list(itertools.islice(carry_ticks(net, state, counter, output, last=MOST), 20))
            before = 0
            for times, carries in found:
                self.assertEqual(leap(net, state, unit(net, counter, times - 1))[1][output], before)
                before += carries
                self.assertEqual(leap(net, state, unit(net, counter, times))[1][output], before)
            wanted = forecast(net, state, counter, output)
            if found:
                self.assertEqual(found[0][0], wanted)
            else:
                self.assertTrue(wanted is None or wanted > MOST)


class Generators(unittest.TestCase):
    def test_it_is_a_generator(self):
        self.assertTrue(inspect.isgeneratorfunction(carry_ticks))

    def test_two_runs_within_each_other(self):
        one_wanted = ticked(NET, (3, 5, 4, 2), 0, 3, 120)
        other_wanted = ticked(NET, (0, 0, 0, 0), 2, 3, 120)
        found = []
        for one in carry_ticks(NET, (3, 5, 4, 2), 0, 3, last=120):
            self.assertEqual(list(carry_ticks(NET, (0, 0, 0, 0), 2, 3, last=120)), other_wanted)
            found.append(one)
        self.assertEqual(found, one_wanted)
        one = carry_ticks(NET, (3, 5, 4, 2), 0, 3, last=120)
        other = carry_ticks(NET, (0, 0, 0, 0), 2, 3, last=120)
        self.assertEqual(list(zip(one, other)), list(zip(one_wanted, other_wanted)))


def first_carry(net, phases, counter, output, *, last):
    return first_of(carry_ticks, net, phases, counter, output, last=last)


class Refusals(InOrder):
    RIGHT = {"net": NET, "phases": (3, 5, 4, 2), "counter": 2, "output": 3, "last": MOST}

    def test_in_order(self):
        outputs = [("output", wrong, ("InvalidCounter", wrong)) for wrong in (4, -1, False, None, (0,))]
        lasts = [("last", wrong, ("InvalidTimes", wrong)) for wrong in (-1, MOST + 1, True, None, "1")]
        faults = [*NETS, *STATES, *SIGNS, *COUNTERS, *INPUTS, *outputs, *lasts]
        self.refuses_in_order(first_carry, self.RIGHT, faults)

    def test_wrong_last(self):
        for wrong in [*not_integers(), -1, MOST + 1, 10 ** 999, -10 ** 999]:
            wanted = ("InvalidTimes", wrong)
            self.tells(first_carry, {**self.RIGHT, "last": wrong}, wanted)
            # Also if there would be no result.
            self.tells(first_carry, {**self.RIGHT, "output": 0, "last": wrong}, wanted)
        for last in (0, 1, MOST - 1, MOST):
            self.tells(first_carry, {**self.RIGHT, "last": last}, None)

    def test_errors_without_results(self):
        for changed, wanted in (({"output": 4}, ("InvalidCounter", 4)), ({"net": NEGATIVE}, ("NotPositive", 1)),
                                ({"counter": 1}, ("NotAnInput", 1)), ({"net": TEN}, ("InvalidPhases", None))):
            self.tells(first_carry, {**self.RIGHT, "last": 0, **changed}, wanted)

    def test_last_is_passed_by_name_only(self):
        self.assertEqual(told(carry_ticks, NET, (0,) * 4, 0, 1)[0], "TypeError")
        self.assertEqual(told(carry_ticks, NET, (0,) * 4, 0, 1, 5)[0], "TypeError")


if __name__ == "__main__":
    unittest.main()
