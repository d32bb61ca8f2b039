"""Events and states along walks, and reached states: 4.7, 4.8, 5.5 and 2.7."""

import inspect
import unittest

from carrynet import events as module
from carrynet.events import events, reached, states_along
from carrynet.lattice import reached_count
from carrynet.nets import opened
from tests.draws import Draw, large_nets, small_nets, with_inputs
from tests.helpers import (A, TEN, first_of, leap, not_integers, not_tuples, put, searched, steps_of, tick_by_tick, told,
                           unit)

ALONG = (events, states_along)
# Counter 1 is no input.
NET = ((4, 6, 5), ((0, 1, 3),), (0, 2))


def drawn_walk(draw, net, steps):
    """A walk that keeps to a direction for a while, so that later counters carry, too."""
    walk = []
    step = None
    while len(walk) < steps:
        if step is None or draw.number(0, 9) == 0:
            step = (draw.choice(net[2]), draw.choice((1, -1)))
        walk.append(step)
    return tuple(walk)


def by_single_ticks(net, state, walk):
    """The events and the states of a walk, by 4.1."""
    told_events = []
    states = []
    for number, step in enumerate(walk):
        _, carried, state = tick_by_tick(net, state, (step,))
        told_events.extend((number, counter, count) for counter, count in enumerate(carried) if count != 0)
        states.append(state)
    return (told_events, states)


class Walks(unittest.TestCase):
    def agrees(self, net, state, walk):
        wanted_events, wanted_states = by_single_ticks(net, state, walk)
        self.assertEqual(list(events(net, state, walk)), wanted_events)
        self.assertEqual(list(states_along(net, state, walk)), wanted_states)
        return wanted_events

    def test_against_single_ticks(self):
        draw = Draw(1)
        found = []
        for net in small_nets(1, 60, counters=4):
            if net[2]:
                for steps in (0, 1, 60, 1000):
                    found.extend(self.agrees(net, draw.state(net), drawn_walk(draw, net, steps)))
        self.assertTrue({-2, -1, 1, 2} <= {carries for _, _, carries in found})
        self.assertEqual({0, 1, 2, 3}, {counter for _, counter, _ in found})

    def test_great_weights(self):
        draw = Draw(2)
        for _ in range(20):
            net = opened(draw.net(3, most=6))
            self.agrees(net, draw.state(net), drawn_walk(draw, net, 60))

    def test_large_nets_against_leaps(self):
        draw = Draw(3)
        for net in large_nets(3, 10):
            if not net[2]:
                continue
            state = begin = draw.state(net)
            walk = drawn_walk(draw, net, 60)
            states = []
            found = []
            for number, (counter, sign) in enumerate(walk):
                state, carried = leap(net, state, unit(net, counter, sign))
                states.append(state)
                found.extend((number, index, count) for index, count in enumerate(carried) if count != 0)
            self.assertEqual(list(states_along(net, begin, walk)), states)
            self.assertEqual(list(events(net, begin, walk)), found)

    def test_events_in_the_order_of_the_counters(self):
        net = ((2, 2, 2), ((0, 1, 2), (0, 2, -4), (1, 2, 2)), (0,))
        self.assertEqual(list(events(net, (1, 0, 0), ((0, 1), (0, -1)))),
                         [(0, 0, 1), (0, 1, 1), (0, 2, -1), (1, 0, -1), (1, 1, -1), (1, 2, 1)])

    def test_carries_that_cancel_out_are_no_event(self):
        net = ((2, 2, 2), ((0, 1, 2), (0, 2, -2), (1, 2, 2)), (0,))
        self.assertEqual(list(events(net, (1, 0, 0), ((0, 1),))), [(0, 0, 1), (0, 1, 1)])
        self.assertEqual(list(events(A, (0, 0), ((0, 1),) * 3)), [])

    def test_walks_without_steps(self):
        for net in (A, TEN, NET):
            for function in ALONG:
                self.assertEqual(list(function(net, (1,) * len(net[0]), ())), [])

    def test_one_thousand_steps(self):
        self.assertEqual(list(states_along(A, (0, 0), ((0, 1),) * 1000))[-1], (0, 0))
        self.assertEqual(len(list(states_along(A, (0, 0), ((0, -1),) * 1000))), 1000)
        self.assertEqual(len(list(events(A, (0, 0), ((0, 1),) * 1000))), 250 + 125)


class WrongWalks(unittest.TestCase):
    def is_wrong(self, net, phases, walk, *wanted):
        for function in ALONG:
            self.assertEqual(told(first_of, function, net, phases, walk), wanted)

    def test_walks_of_other_kinds_and_lengths(self):
        for value in not_tuples() + [[(0, 1)]]:
            self.is_wrong(NET, (0, 0, 0), value, "InvalidWalk", None)
        self.is_wrong(NET, (3, 0, 0), ((0, 1),) * 1001, "InvalidWalk", None)
        self.is_wrong(NET, (3, 0, 0), (None,) * 1001, "InvalidWalk", None)

    def test_wrong_steps_are_refused_before_anything_is_yielded(self):
        for step in [*not_tuples(), [0, 1], (), (0,), (0, 1, 1), (1, 1), (3, 1), (-1, 1), (0, 0), (0, 2), (0, True),
                     (False, 1)]:
            for before in (0, 1, 7, 999):
                self.is_wrong(NET, (3, 5, 4), ((0, 1),) * before + (step,), "InvalidWalk", before)
            self.is_wrong(NET, (3, 5, 4), ((2, -1), step, None), "InvalidWalk", 1)
        for wrong in not_integers():
            self.is_wrong(NET, (3, 5, 4), ((0, 1), (wrong, 1)), "InvalidWalk", 1)
            self.is_wrong(NET, (3, 5, 4), ((0, 1), (0, wrong)), "InvalidWalk", 1)

    def test_wrong_states(self):
        for walk in ((), ((0, 1),), None, (None,)):
            self.is_wrong(NET, (0, 6, 5), walk, "InvalidPhases", 1)
            for value in not_tuples():
                self.is_wrong(NET, value, walk, "InvalidPhases", None)

    def test_wrong_nets_come_first(self):
        for walk in ((), ((0, 1),), None):
            self.is_wrong((*NET[:2], (0, 3)), None, walk, "InvalidNet", "inputs", 1)
            for value in not_tuples():
                self.is_wrong(value, value, walk, "InvalidNet", "form", None)


class Reached(unittest.TestCase):
    def test_against_a_search_of_its_own(self):
        draw = Draw(11)
        for net in small_nets(11, 120, most=4):
            state = draw.state(net)
            self.assertEqual(list(reached(net, state)), searched(net, state), net)

    def test_breadth_first_with_inputs_in_order(self):
        self.assertEqual(list(reached(((3, 2), ((0, 1, 1),), (0, 1)), (2, 0))),
                         [(2, 0), (0, 1), (2, 1), (1, 1), (0, 0), (1, 0)])

    def test_each_state_once_and_all_of_them(self):
        draw = Draw(12)
        for net in large_nets(12, 60):
            for inputs in ((), (9,), (8, 9)):
                net = with_inputs(net, inputs)
                if reached_count(net) <= 2000:
                    state = draw.state(net)
                    found = list(reached(net, state))
                    self.assertEqual(len(found), reached_count(net))
                    self.assertEqual(len(set(found)), len(found))
                    self.assertEqual(found[0], state)

    def test_no_inputs(self):
        self.assertEqual(list(reached(TEN, (1,) * 10)), [(1,) * 10])
        self.assertEqual(list(reached(((1000,) * 10, (), ()), (999,) * 10)), [(999,) * 10])

    def test_two_thousand_states(self):
        self.assertEqual(module.MOST_REACHED, 2000)
        for net in (((1000, 2), (), (0, 1)), ((1000, 4), ((0, 1, 2),), (0,)), ((20, 10, 10), (), (0, 1, 2)),
                    ((20, 10, 10), ((0, 1, 1), (1, 2, -1)), (0,))):
            found = list(reached(net, (1,) * len(net[0])))
            self.assertEqual((len(found), len(set(found))), (2000, 2000))

    def test_more_states_are_refused_before_anything_is_yielded(self):
        for net in (((69, 29), (), (0, 1)), ((69, 29), ((0, 1, 1),), (0,)), ((69, 29, 2), (), (0, 1)),
                    ((3, 23, 29), (), (0, 1, 2)), ((1000,) * 10, (), tuple(range(10)))):
            self.assertEqual(told(first_of, reached, net, (1,) * len(net[0])), ("TooLarge", 2000))
        # There may be more states than are reached.
        self.assertEqual(len(list(reached(((69, 29), (), (0,)), (3, 4)))), 69)

    def test_wrong_arguments(self):
        large = ((1000, 1000), (), (0, 1))
        for value in not_tuples():
            self.assertEqual(told(first_of, reached, value, value), ("InvalidNet", "form", None))
            self.assertEqual(told(first_of, reached, A, value), ("InvalidPhases", None))
            self.assertEqual(told(first_of, reached, large, value), ("InvalidPhases", None))
        for wrong in [*not_integers(), -1, 6]:
            self.assertEqual(told(first_of, reached, A, put((0, 0), 1, wrong)), ("InvalidPhases", 1))
        self.assertEqual(told(first_of, reached, (*large[:2], (2,)), None), ("InvalidNet", "inputs", 0))
        self.assertEqual(told(first_of, reached, large, (1000, 0)), ("InvalidPhases", 0))
        self.assertEqual(told(first_of, reached, TEN, (0,) * 9), ("InvalidPhases", None))


class Generators(unittest.TestCase):
    def test_they_are_generators(self):
        for function in (*ALONG, reached):
            self.assertTrue(inspect.isgeneratorfunction(function))

    def test_two_at_once_do_not_disturb_each_other(self):
        walk = tuple(steps_of((9, 0)))
        one = states_along(A, (0, 0), walk)
        other = states_along(A, (3, 5), walk)
        pairs = list(zip(one, other))
        self.assertEqual([first for first, _ in pairs], list(states_along(A, (0, 0), walk)))
        self.assertEqual([second for _, second in pairs], list(states_along(A, (3, 5), walk)))

    def test_by_position_and_by_name(self):
        self.assertEqual(list(events(walk=((0, 1),), phases=(3, 5), net=A)), [(0, 0, 1), (0, 1, 1)])
        self.assertEqual(list(states_along(walk=((0, 1),), phases=(3, 5), net=A)), [(0, 2)])
        self.assertEqual(list(reached(phases=(3, 5), net=A)), searched(A, (3, 5)))


if __name__ == "__main__":
    unittest.main()
