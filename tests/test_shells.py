"""Distances: shells and the radius, 10.4 and 2.7."""

import inspect
import itertools
import unittest

from carrynet.lattice import reached_count
from carrynet.ways import cheapest_way, radius, shells
from tests.draws import Draw, large_nets, small_nets, with_inputs
from tests.helpers import A, TEN, all_states, first_of, not_integers, not_tuples, put, searched, tick_by_tick, told
from tests.refusals import InOrder
from tests.test_ways import NET, few_reached

LARGE = ((69, 29, 2), (), (0, 1))


def ticked_shells(net, state):
    """The states at each distance, by single ticks."""
    found = [{state}]
    seen = {state}
    while found[-1]:
        following = {tick_by_tick(net, known, ((counter, sign),))[2]
                     for known in found[-1] for counter in net[2] for sign in (1, -1)} - seen
        found.append(following)
        seen |= following
    return [tuple(sorted(shell)) for shell in found[:-1]]


def distances(net, state):
    return {found: distance for distance, shell in enumerate(shells(net, state)) for found in shell}


class Shells(unittest.TestCase):
    def test_against_single_ticks(self):
        draw = Draw(1)
        for net in few_reached(1, 80, 300, counters=4, modulus=5) + [A, NET, TEN]:
            state = draw.state(net)
            self.assertEqual(list(shells(net, state)), ticked_shells(net, state))

    def test_every_reached_state_in_exactly_one(self):
        draw = Draw(2)
        for net in few_reached(2, 60, 300, counters=4, modulus=5):
            state = draw.state(net)
            found = list(itertools.chain.from_iterable(shells(net, state)))
            self.assertEqual(sorted(found), sorted(searched(net, state)))
            self.assertEqual(len(found), reached_count(net))

    def test_the_costs_of_cheapest_ways(self):
        draw = Draw(3)
        for net in few_reached(3, 30, 60):
            state = draw.state(net)
            known = distances(net, state)
            for goal in all_states(net):
                found = cheapest_way(net, state, goal)
                self.assertEqual(known.get(goal), None if found is None else sum(map(abs, found)))

    def test_the_same_in_both_directions_and_from_every_state(self):
        for net in few_reached(4, 30, 40):
            known = {state: distances(net, state) for state in all_states(net)}
            for state, found in known.items():
                self.assertEqual(sorted(found.values()), sorted(known[all_states(net)[0]].values()))
                for other, distance in found.items():
                    self.assertEqual(known[other][state], distance)

    def test_tuples_of_states_in_ascending_order(self):
        for shell in shells(((3, 3, 3), ((0, 2, 1),), (0, 1, 2)), (2, 1, 0)):
            self.assertEqual((type(shell), {type(state) for state in shell}), (tuple, {tuple}))
            self.assertEqual(list(shell), sorted(shell))

    def test_nets_without_inputs(self):
        self.assertEqual(list(shells(TEN, (1,) * 10)), [((1,) * 10,)])
        self.assertEqual(list(shells(((1000,) * 10, (), ()), (999,) * 10)), [((999,) * 10,)])


class Generators(unittest.TestCase):
    def test_it_is_a_generator(self):
        self.assertTrue(inspect.isgeneratorfunction(shells))

    def test_a_caller_that_stops_early(self):
        for many in range(4):
            wanted = ticked_shells(A, (0, 0))[:many]
            self.assertEqual(list(itertools.islice(shells(A, (0, 0)), many)), wanted)
        found = shells(A, (3, 5))
        self.assertEqual(next(found), ((3, 5),))
        found.close()
        self.assertEqual(next(shells(A, (3, 5))), ((3, 5),))

    def test_two_at_once(self):
        pairs = list(zip(shells(A, (0, 0)), shells(A, (3, 5))))
        self.assertEqual(pairs, list(zip(ticked_shells(A, (0, 0)), ticked_shells(A, (3, 5)))))


class Radius(unittest.TestCase):
    def test_the_last_distance_from_every_state(self):
        for net in few_reached(11, 60, 60) + [A, NET, TEN]:
            for state in all_states(net)[::7]:
                self.assertEqual(radius(net), len(ticked_shells(net, state)) - 1)

    def test_counters_without_wires(self):
        for moduli in ((2,), (3,), (1000,), (1000, 2), (7, 8, 9), (2,) * 10):
            net = (moduli, (), tuple(range(len(moduli))))
            self.assertEqual(radius(net), sum(modulus // 2 for modulus in moduli))
            self.assertEqual(radius(with_inputs(net, (0,))), moduli[0] // 2)
            self.assertEqual(radius(with_inputs(net, ())), 0)

    def test_many_states(self):
        draw = Draw(12)
        tried = 0
        for net in large_nets(12, 60):
            net = with_inputs(net, (8, 9) if draw.number(0, 1) else (9,))
            if reached_count(net) <= 2000:
                tried += 1
                self.assertEqual(len(list(shells(net, draw.state(net)))), radius(net) + 1)
        self.assertGreater(tried, 20)


def first_shell(net, phases):
    return first_of(shells, net, phases)


class Refusals(InOrder):
    def test_in_order(self):
        nets = [("net", None, ("InvalidNet", "form", None)), ("net", (*NET[:2], (3,)), ("InvalidNet", "inputs", 0))]
        large = [("net", LARGE, ("TooLarge", 2000))]
        states = [("phases", wrong, ("InvalidPhases", index)) for wrong, index in (
            (None, None), ((0, 0), None), ([0, 0, 0], None), ((-1, 0, 6), 0), ((0, 0, 1000), 2), ((0, 0, True), 2))]
        self.refuses_in_order(first_shell, {"net": NET, "phases": (0, 0, 1)}, [*nets, *states, *large])
        self.refuses_in_order(radius, {"net": NET}, [*nets, *large])

    def test_wrong_kinds(self):
        for value in not_tuples():
            self.tells(first_shell, {"net": value, "phases": value}, ("InvalidNet", "form", None))
            self.tells(first_shell, {"net": LARGE, "phases": value}, ("InvalidPhases", None))
            self.tells(radius, {"net": value}, ("InvalidNet", "form", None))
        for wrong in [*not_integers(), -1, 6]:
            self.tells(first_shell, {"net": A, "phases": put((0, 0), 1, wrong)}, ("InvalidPhases", 1))

    def test_two_thousand_states(self):
        for net, wanted in ((((1000, 2), (), (0, 1)), 501), (((1000, 4), ((0, 1, 2),), (0,)), 1000),
                            (((20, 10, 10), (), (0, 1, 2)), 20)):
            found = list(shells(net, (1,) * len(net[0])))
            self.assertEqual(sum(map(len, found)), 2000)
            self.assertEqual((len(found) - 1, radius(net)), (wanted, wanted))

    def test_more_than_two_thousand_states(self):
        for net in (((69, 29), (), (0, 1)), ((69, 29), ((0, 1, 1),), (0,)), LARGE,
                    ((1000,) * 10, (), tuple(range(10)))):
            self.tells(first_shell, {"net": net, "phases": (1,) * len(net[0])}, ("TooLarge", 2000))
            self.tells(radius, {"net": net}, ("TooLarge", 2000))
        # There may be more states than are reached.
        self.assertEqual((radius(((69, 29), (), (0,))), told(first_shell, ((69, 29), (), (0,)), (3, 4))), (34, None))


class Drawn(unittest.TestCase):
    def test_small_nets_are_drawn(self):
        self.assertGreater(len(few_reached(1, 80, 300, counters=4, modulus=5)), 40)
        self.assertGreater(len(few_reached(11, 60, 60)), 40)
        self.assertTrue(any(net[2] == () for net in small_nets(11, 60)))


if __name__ == "__main__":
    unittest.main()
