"""Arrivals: 9.3."""

import unittest

from carrynet.forecasts import arrival
from carrynet.lattice import order_of
from carrynet.nets import opened
from tests.draws import Draw, large_nets, small_nets
from tests.helpers import A, TEN, all_states, leap, not_integers, not_tuples, unit
from tests.refusals import InOrder

BIG = 10 ** 40
NET = ((4, 6, 5, 3), ((0, 1, 3), (1, 3, -1), (2, 3, 2)), (0, 2))


def ticked(net, start, counter):
    """The numbers of ticks after which each state is first met."""
    found = {}
    state = start
    while state not in found:
        found[state] = len(found)
        state = leap(net, state, unit(net, counter))[0]
    return found


class SmallNets(unittest.TestCase):
    def test_all_pairs_of_states(self):
        reached = missed = negative = 0
        for net in map(opened, small_nets(1, 25, most=4)):
            negative += any(weight < 0 for _, _, weight in net[1])
            states = all_states(net)
            for start in states:
                for counter in net[2]:
                    known = ticked(net, start, counter)
                    for goal in states:
                        self.assertEqual(arrival(net, start, goal, counter), known.get(goal))
                    reached += len(known)
                    missed += len(states) - len(known)
        self.assertGreater(min(reached, missed, negative), 10)

    def test_drawn_states(self):
        draw = Draw(2)
        for net in map(opened, small_nets(2, 60, counters=4, most=7)):
            for _ in range(4):
                start, goal, counter = draw.state(net), draw.state(net), draw.choice(net[2])
                self.assertEqual(arrival(net, start, goal, counter), ticked(net, start, counter).get(goal))

    def test_negative_weights(self):
        net = ((2, 3), ((0, 1, -1),), (0,))
        self.assertEqual([arrival(net, (0, 0), (0, phase), 0) for phase in range(3)], [0, 4, 2])
        self.assertEqual([arrival(net, (1, 2), (1, phase), 0) for phase in range(3)], [4, 2, 0])


class LargeNets(unittest.TestCase):
    def test_a_great_number_of_ticks(self):
        draw = Draw(11)
        for net in map(opened, large_nets(11, 80)):
            for counter in (0, draw.number(1, 8), 9):
                start = draw.state(net)
                order = order_of(net, unit(net, counter))
                for times in (draw.number(0, BIG), -draw.number(0, BIG), order, order - 1, 1, 0):
                    goal = leap(net, start, unit(net, counter, times))[0]
                    self.assertEqual(arrival(net, start, goal, counter), times % order)

    def test_states_that_are_not_reached(self):
        draw = Draw(12)
        for net in map(opened, large_nets(12, 40)):
            start = draw.state(net)
            counter = draw.number(1, 9)
            changed = (start[0] + 1) % net[0][0]
            goal = leap(net, (changed, *start[1:]), unit(net, counter, draw.number(0, BIG)))[0]
            self.assertIsNone(arrival(net, start, goal, counter))

    def test_one_tick_too_many_of_another_input(self):
        # Both counters are restored after 1,000 ticks, so only the same number of ticks at both leads there.
        net = ((1000, 1000), ((0, 1, 100),), (0, 1))
        self.assertEqual(arrival(net, (0, 0), (0, 100), 0), 1000)
        self.assertEqual(arrival(net, (0, 0), (0, 900), 0), 9000)
        self.assertIsNone(arrival(net, (0, 0), (0, 99), 0))
        self.assertEqual(arrival(net, (0, 0), (0, 99), 1), 99)

    def test_the_longest_chain(self):
        net = ((1000,) * 10, tuple((k, k + 1, 1) for k in range(9)), (0,))
        self.assertEqual(arrival(net, (0,) * 10, (999,) * 10, 0), 10 ** 30 - 1)
        self.assertEqual(arrival(net, (999,) * 10, (0,) * 10, 0), 1)
        self.assertEqual(arrival(net, (1,) + (0,) * 9, (0,) * 10, 0), 10 ** 30 - 1)


class Itself(unittest.TestCase):
    def test_no_ticks(self):
        draw = Draw(21)
        for net in map(opened, small_nets(21, 20) + large_nets(21, 20)):
            state = draw.state(net)
            for counter in net[2]:
                self.assertEqual(arrival(net, state, state, counter), 0)


class Refusals(InOrder):
    RIGHT = {"net": NET, "start": (3, 5, 4, 2), "goal": (0, 0, 0, 0), "counter": 2}

    def test_in_order(self):
        nets = [("net", None, ("InvalidNet", "form", None)), ("net", (*NET[:2], (4,)), ("InvalidNet", "inputs", 0))]
        wrong_states = ((None, None), ((0, 0, 0), None), ([0, 0, 0, 0], None), ((4, 6, 0, 0), 0), ((0, 0, 5, 3), 2))
        starts = [("start", wrong, ("InvalidPhases", index)) for wrong, index in wrong_states]
        goals = [("goal", wrong, ("InvalidPhases", index)) for wrong, index in wrong_states]
        counters = [("counter", wrong, ("InvalidCounter", wrong)) for wrong in (4, -1, True, None, "0")]
        inputs = [("counter", 1, ("NotAnInput", 1)), ("counter", 3, ("NotAnInput", 3))]
        self.refuses_in_order(arrival, self.RIGHT, [*nets, *starts, *goals, *counters, *inputs])

    def test_wrong_kinds(self):
        for value in not_tuples():
            self.tells(arrival, {**self.RIGHT, "net": value, "start": value}, ("InvalidNet", "form", None))
            self.tells(arrival, {**self.RIGHT, "start": value, "goal": value}, ("InvalidPhases", None))
            self.tells(arrival, {**self.RIGHT, "goal": value, "counter": None}, ("InvalidPhases", None))
        for wrong in [*not_integers(), -1, 4, 10 ** 999]:
            self.tells(arrival, {**self.RIGHT, "counter": wrong}, ("InvalidCounter", wrong))
            # Also if there is nothing to do.
            self.tells(arrival, {**self.RIGHT, "goal": (3, 5, 4, 2), "counter": wrong}, ("InvalidCounter", wrong))

    def test_nets_without_inputs(self):
        zeros = (0,) * 10
        self.tells(arrival, {"net": TEN, "start": zeros, "goal": zeros, "counter": 9}, ("NotAnInput", 9))
        self.tells(arrival, {"net": A, "start": (0, 0), "goal": (0, 0), "counter": 1}, ("NotAnInput", 1))


if __name__ == "__main__":
    unittest.main()
