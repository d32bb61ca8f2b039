"""Cheapest ways: 10.1 to 10.3."""

import itertools
import unittest

from carrynet import ways as module
from carrynet.lattice import order_of, reached_count, remainder
from carrynet.reaching import way
from carrynet.ways import cheapest_way
from tests.draws import Draw, large_nets, small_nets, with_inputs
from tests.helpers import (A, TEN, all_states, leap, not_integers, not_tuples, scaled, searched, tick_by_tick, told,
                           total, unit)
from tests.refusals import InOrder

MOST = 1000000
TWO = ((2, 2), ((0, 1, 1),), (0, 1))
NET = ((4, 6, 5), ((0, 1, 3),), (0, 2))


def cost(net, vector, prices):
    return sum(price * abs(vector[counter]) for price, counter in zip(prices or [1] * len(net[2]), net[2], strict=True))


def listed_ways(net, start, prices):
    """The cheapest way to each state, among all vectors that could be one.

    An entry that is greater than half the order of its input is not the cheapest.
    """
    halves = [order_of(net, unit(net, counter)) // 2 if counter in net[2] else 0 for counter in range(len(net[0]))]
    found = {}
    for vector in itertools.product(*[range(-half, half + 1) for half in halves]):
        goal = leap(net, start, vector)[0]
        known = (cost(net, vector, prices), vector)
        found[goal] = min(found.get(goal, known), known)
    return {goal: vector for goal, (_, vector) in found.items()}


def ticked_ways(net, start, prices):
    """The cheapest way to each state, by single ticks in the order of costs."""
    found = {}
    waiting = {0: {(start, (0,) * len(start))}}
    while waiting:
        spent = min(waiting)
        for state, vector in sorted(waiting.pop(spent), key=lambda pair: pair[1]):
            if state in found:
                continue
            found[state] = vector
            for price, counter in zip(prices or [1] * len(net[2]), net[2], strict=True):
                for sign in (1, -1):
                    following = tick_by_tick(net, state, ((counter, sign),))[2]
                    longer = total(vector, unit(net, counter, sign))
                    waiting.setdefault(spent + price, set()).add((following, longer))
    return found


def few_reached(seed, many, most, counters=3, modulus=4):
    """Small nets in which a state reaches few states."""
    nets = small_nets(seed, many, counters=counters, most=modulus)
    return [net for net in nets if reached_count(net) <= most]


def drawn_prices(draw, net):
    """No prices, equal ones, small ones, and those at both bounds."""
    many = len(net[2])
    return ((), (draw.number(1, MOST),) * many, tuple(draw.number(1, 4) for _ in range(many)),
            tuple(draw.choice((1, MOST)) for _ in range(many)), tuple(draw.number(1, MOST) for _ in range(many)))


class SmallNets(unittest.TestCase):
    def test_all_states_against_all_vectors(self):
        draw = Draw(1)
        ties = 0
        for net in few_reached(1, 60, 40):
            start = draw.state(net)
            for prices in drawn_prices(draw, net):
                known = listed_ways(net, start, prices)
                for goal in all_states(net):
                    wanted = known.get(goal)
                    self.assertEqual(cheapest_way(net, start, goal, *prices), wanted, (net, start, goal, prices))
                    ties += wanted is not None and wanted < scaled(wanted, -1)
        self.assertGreater(ties, 50)

    def test_all_states_against_single_ticks(self):
        draw = Draw(2)
        for net in few_reached(2, 40, 120, counters=4, modulus=5):
            start = draw.state(net)
            for prices in drawn_prices(draw, net):
                known = ticked_ways(net, start, prices)
                for goal in [*list(known)[::3], draw.state(net), draw.state(net)]:
                    self.assertEqual(cheapest_way(net, start, goal, *prices), known.get(goal))

    def test_the_same_remainder_has_the_same_way(self):
        # 10.2
        draw = Draw(3)
        for net in few_reached(3, 40, 60):
            for prices in drawn_prices(draw, net)[::2]:
                known = {}
                for _ in range(20):
                    start = draw.state(net)
                    vector = draw.vector(net)
                    found = cheapest_way(net, start, leap(net, start, vector)[0], *prices)
                    self.assertEqual(known.setdefault(remainder(net, vector), found), found)

    def test_the_last_unit_taken_away(self):
        # 10.3
        draw = Draw(4)
        for net in few_reached(4, 30, 60):
            for prices in drawn_prices(draw, net):
                start = draw.state(net)
                found = cheapest_way(net, start, leap(net, start, draw.vector(net))[0], *prices)
                for counter in net[2]:
                    if found[counter] != 0:
                        shorter = total(found, unit(net, counter, -1 if found[counter] > 0 else 1))
                        other = cheapest_way(net, start, leap(net, start, shorter)[0], *prices)
                        self.assertEqual(cost(net, other, prices), cost(net, shorter, prices))


class LargeNets(unittest.TestCase):
    def test_it_leads_there_and_is_not_dearer_than_others(self):
        draw = Draw(11)
        tried = 0
        for net in large_nets(11, 60):
            net = with_inputs(net, (8, 9) if draw.number(0, 1) else (9,))
            if reached_count(net) > 2000:
                continue
            tried += 1
            start = draw.state(net)
            vector = draw.vector(net)
            goal = leap(net, start, vector)[0]
            for prices in drawn_prices(draw, net)[::2]:
                found = cheapest_way(net, start, goal, *prices)
                self.assertEqual(leap(net, start, found)[0], goal)
                for other in (vector, remainder(net, vector), way(net, start, goal)[1]):
                    self.assertLessEqual(cost(net, found, prices), cost(net, other, prices))
        self.assertGreater(tried, 20)

    def test_counters_without_wires(self):
        net = ((2,) * 10, (), tuple(range(10)))
        self.assertEqual(cheapest_way(net, (0,) * 10, (1,) * 10), (-1,) * 10)
        self.assertEqual(cheapest_way(net, (1,) * 10, (0, 1) * 5, *range(1, 11)), (-1, 0) * 5)
        net = ((40, 50), (), (0, 1))
        self.assertEqual(cheapest_way(net, (0, 0), (20, 25), MOST, 1), (-20, -25))
        self.assertEqual(cheapest_way(net, (39, 0), (0, 49), 1, MOST), (1, -1))

    def test_a_detour_that_is_cheaper(self):
        net = ((2, 1000), ((0, 1, 1),), (0, 1))
        self.assertEqual(cheapest_way(net, (0, 0), (0, 3), 1, MOST), (6, 0))
        self.assertEqual(cheapest_way(net, (0, 0), (0, 3), MOST, 1), (0, 3))
        self.assertEqual(cheapest_way(net, (0, 0), (0, 3), 1, 2), (0, 3))
        self.assertEqual(cheapest_way(net, (0, 0), (0, 3), 2, 4), (0, 3))
        self.assertEqual(cheapest_way(net, (0, 0), (0, 997), 2, 4), (-6, 0))
        self.assertEqual(cheapest_way(net, (0, 0), (1, 999), 1, 1), (-1, 0))


class Ties(unittest.TestCase):
    def test_the_smallest_tuple(self):
        self.assertEqual(cheapest_way(TWO, (0, 0), (1, 0)), (1, 0))
        self.assertEqual(cheapest_way(TWO, (0, 0), (1, 1)), (-1, 0))
        self.assertEqual(cheapest_way(TWO, (0, 0), (0, 1), 1, 2), (-2, 0))
        self.assertEqual(cheapest_way(TWO, (0, 0), (0, 1), 2, 3), (0, -1))
        self.assertEqual(cheapest_way(((4,), (), (0,)), (0,), (2,)), (-2,))
        self.assertEqual(cheapest_way(((4,), (), (0,)), (3,), (1,), MOST), (-2,))
        self.assertEqual(cheapest_way(((5,), (), (0,)), (0,), (2,)), (2,))

    def test_equal_prices_are_like_none(self):
        draw = Draw(21)
        for net in few_reached(21, 30, 60):
            start, goal = draw.state(net), draw.state(net)
            wanted = cheapest_way(net, start, goal)
            for price in (1, 2, MOST):
                self.assertEqual(cheapest_way(net, start, goal, *[price] * len(net[2])), wanted)


class NotReached(unittest.TestCase):
    def test_like_ways_by_ticks(self):
        draw = Draw(31)
        missed = 0
        for net in few_reached(31, 60, 60):
            start, goal = draw.state(net), draw.state(net)
            reaches = goal in searched(net, start)
            missed += not reaches
            for prices in drawn_prices(draw, net):
                self.assertEqual(cheapest_way(net, start, goal, *prices) is not None, reaches)
        self.assertGreater(missed, 5)

    def test_nets_without_inputs(self):
        self.assertEqual(cheapest_way(TEN, (1,) * 10, (1,) * 10), (0,) * 10)
        self.assertIsNone(cheapest_way(TEN, (1,) * 10, (1,) * 9 + (0,)))
        net = ((1000,) * 10, (), ())
        self.assertEqual(cheapest_way(net, (999,) * 10, (999,) * 10), (0,) * 10)

    def test_the_state_itself(self):
        draw = Draw(32)
        for net in few_reached(32, 30, 60) + [A, NET, TWO]:
            state = draw.state(net)
            for prices in drawn_prices(draw, net):
                self.assertEqual(cheapest_way(net, state, state, *prices), (0,) * len(state))


def priced_way(net, start, goal, prices):
    return cheapest_way(net, start, goal, *prices)


class Refusals(InOrder):
    RIGHT = {"net": NET, "start": (3, 5, 4), "goal": (0, 0, 0), "prices": (1, MOST)}
    LARGE = ((69, 29, 2), (), (0, 1))
    WRONG_STATES = ((None, None), ((0, 0), None), ([0, 0, 0], None), ((-1, 0, 6), 0), ((0, 0, 1000), 2))

    def test_in_order(self):
        nets = [("net", None, ("InvalidNet", "form", None)), ("net", (*NET[:2], (3,)), ("InvalidNet", "inputs", 0))]
        starts = [("start", wrong, ("InvalidPhases", index)) for wrong, index in self.WRONG_STATES]
        goals = [("goal", wrong, ("InvalidPhases", index)) for wrong, index in self.WRONG_STATES]
        prices = [("prices", wrong, ("InvalidPrices", index)) for wrong, index in (
            ((1,), None), ((0, None, 1), None), ((0, 0), 0), ((1, MOST + 1), 1), ((True, 0), 0), ((1, None), 1))]
        self.refuses_in_order(priced_way, self.RIGHT, [*nets, *starts, *goals, *prices])
        right = {**self.RIGHT, "goal": (3, 5, 1), "start": (0, 0, 1)}
        faults = [*nets, *starts, *goals, *prices, ("net", self.LARGE, ("TooLarge", 2000))]
        self.refuses_in_order(priced_way, right, faults)

    def test_too_many_and_too_few_prices(self):
        for net, many in ((A, 1), (NET, 2), (TWO, 2), (TEN, 0), (((2, 2, 2), (), (0, 1, 2)), 3)):
            zeros = (0,) * len(net[0])
            for given in range(1, 5):
                for price in (1, 0, None):
                    error = told(cheapest_way, net, zeros, zeros, *[price] * given)
                    if given != many:
                        self.assertEqual(error, ("InvalidPrices", None))
                    else:
                        self.assertEqual(error, None if price == 1 else ("InvalidPrices", 0))
            self.assertIsNone(told(cheapest_way, net, zeros, zeros))

    def test_wrong_prices(self):
        for wrong in [*not_integers(), 0, -1, MOST + 1, 10 ** 999, -10 ** 999]:
            self.tells(priced_way, {**self.RIGHT, "prices": (wrong, wrong)}, ("InvalidPrices", 0))
            self.tells(priced_way, {**self.RIGHT, "prices": (MOST, wrong)}, ("InvalidPrices", 1))
            # Also if there is no way, or nothing to do.
            self.tells(priced_way, {**self.RIGHT, "goal": (0, 1, 0), "prices": (1, wrong)}, ("InvalidPrices", 1))
            self.tells(priced_way, {**self.RIGHT, "goal": (3, 5, 4), "prices": (1, wrong)}, ("InvalidPrices", 1))
        self.assertEqual(module.MOST_PRICE, MOST)

    def test_wrong_kinds(self):
        for value in not_tuples():
            self.assertEqual(told(cheapest_way, value, value, value, value), ("InvalidNet", "form", None))
            self.assertEqual(told(cheapest_way, A, value, value, value), ("InvalidPhases", None))
            self.assertEqual(told(cheapest_way, A, (0, 0), value, value), ("InvalidPhases", None))

    def test_two_thousand_states(self):
        for net in (((1000, 2), (), (0, 1)), ((1000, 4), ((0, 1, 2),), (0,)), ((20, 10, 10), (), (0, 1, 2))):
            ones = (1,) * len(net[0])
            self.assertEqual(reached_count(net), 2000)
            found = cheapest_way(net, (0,) * len(net[0]), ones)
            self.assertTrue(found is None or leap(net, (0,) * len(net[0]), found)[0] == ones)

    def test_more_than_two_thousand_states(self):
        for net in (((69, 29), (), (0, 1)), ((69, 29), ((0, 1, 1),), (0,)), ((1000,) * 10, (), tuple(range(10)))):
            zeros = (0,) * len(net[0])
            for goal in (zeros, (1,) * len(net[0])):
                self.assertEqual(told(cheapest_way, net, zeros, goal), ("TooLarge", 2000))
                self.assertEqual(told(cheapest_way, net, zeros, goal, *net[2], 1, 1), ("InvalidPrices", None))
        # Also if the goal is not reached; and there may be more states than are reached.
        self.assertEqual(told(cheapest_way, self.LARGE, (0, 0, 0), (0, 0, 1)), ("TooLarge", 2000))
        self.assertEqual(cheapest_way(((69, 29), (), (0,)), (3, 4), (2, 4)), (-1, 0))


if __name__ == "__main__":
    unittest.main()
