"""Machines: 7.1 and the interface."""

import inspect
import math
import unittest

from carrynet import ticks
from carrynet.machines import Machine, Odometer, Recorder
from carrynet.nets import make_net
from tests.draws import Draw, large_nets, small_nets
from tests.helpers import A, TEN, first_of, leap, not_integers, not_tuples, put, told, total, unit
from tests.machine_helpers import MOST, NET, Refusing, drawn_calls, face

KINDS = (Machine, Recorder)


def used_machines():
    """A machine of each kind with the state (3, 0, 4), which has ticked before."""
    for kind in KINDS:
        machine = kind(NET, phases=(0, 3, 0))
        machine.tick(0, times=7)
        machine.tick(2, times=-1)
        yield machine


class Creation(Refusing):
    def test_without_a_state(self):
        for kind in KINDS:
            for machine in (kind(A), kind(A, phases=None), kind(net=A)):
                self.assertEqual((machine.net, machine.phases, machine.carried), (A, (0, 0), (0, 0)))

    def test_with_a_state(self):
        for kind in KINDS:
            machine = kind(phases=(3, 5), net=A)
            self.assertEqual((machine.net, machine.phases, machine.carried), (A, (3, 5), (0, 0)))
            self.assertEqual(kind(TEN, phases=(1,) * 10).phases, (1,) * 10)

    def test_wrong_nets(self):
        for kind in KINDS:
            for value in not_tuples():
                self.assertEqual(told(kind, value), ("InvalidNet", "form", None))
                self.assertEqual(told(kind, value, phases=value), ("InvalidNet", "form", None))
            self.assertEqual(told(kind, (*A[:2], (2,)), phases=(9, 9)), ("InvalidNet", "inputs", 0))

    def test_wrong_states(self):
        for kind in KINDS:
            for value in not_tuples():
                if value is not None:
                    self.assertEqual(told(kind, A, phases=value), ("InvalidPhases", None))
            for wrong in [*not_integers(), -1, 6]:
                self.assertEqual(told(kind, A, phases=(3, wrong)), ("InvalidPhases", 1))
            for value in ((), (0,), (0, 0, 0), [0, 0]):
                self.assertEqual(told(kind, A, phases=value), ("InvalidPhases", None))

    def test_phases_is_keyword_only(self):
        for kind in KINDS:
            self.assertEqual(told(kind, A, (3, 5))[0], "TypeError")


class Made(unittest.TestCase):
    def test_object_of_the_class_on_which_it_is_called(self):
        class Own(Recorder):
            pass

        for kind in (Machine, Recorder, Own):
            machine = kind.made(4, 6, wires=((0, 1, 3),), inputs=(0,))
            self.assertIs(type(machine), kind)
            self.assertEqual((machine.net, machine.phases, machine.carried), (A, (0, 0), (0, 0)))
            self.assertEqual(kind.made(2, 2, 5).net, make_net(2, 2, 5))
            self.assertEqual(kind.made(2, 3, inputs=()).net, ((2, 3), (), ()))
            self.assertIs(type(machine.made(2)), kind)

    def test_options_are_sorted(self):
        machine = Machine.made(2, 3, 4, inputs=(2, 0), wires=((1, 2, 1), (0, 2, -1), (0, 1, 5)))
        self.assertEqual(machine.net, ((2, 3, 4), ((0, 1, 5), (0, 2, -1), (1, 2, 1)), (0, 2)))

    def test_errors_of_make_net(self):
        for kind in KINDS:
            self.assertEqual(told(kind.made), ("InvalidNet", "moduli", None))
            self.assertEqual(told(kind.made, 4, 1), ("InvalidNet", "moduli", 1))
            self.assertEqual(told(kind.made, 4, 6, wires=((1, 0, 3),)), ("InvalidNet", "wires", 0))
            self.assertEqual(told(kind.made, 4, 6, wires=((0, 1, 0),), inputs=(9,)), ("InvalidNet", "wires", 0))
            self.assertEqual(told(kind.made, 4, 6, inputs=(0, 2)), ("InvalidNet", "inputs", 1))
            for value in not_tuples():
                self.assertEqual(told(kind.made, value if value != 2 else None), ("InvalidNet", "moduli", 0))


class Statics(unittest.TestCase):
    def test_most_times(self):
        for holder in (Machine, Recorder, Odometer, Machine(A)):
            self.assertEqual(holder.MOST_TIMES, MOST)
            self.assertIs(type(holder.MOST_TIMES), int)
        self.assertEqual(Machine.MOST_TIMES, ticks.TIMES_BOUND)

    def test_common_divisor(self):
        for one in range(-12, 13):
            for other in range(-12, 13):
                common = [number for number in range(1, 13) if one % number == 0 and other % number == 0]
                wanted = common[-1] if (one, other) != (0, 0) else 0
                self.assertEqual(Machine.common_divisor(one, other), wanted)
        self.assertEqual(Machine.common_divisor(0, 0), 0)
        self.assertEqual(Machine.common_divisor(-10 ** 999, 6 * 10 ** 500), 2 * 10 ** 500)
        self.assertEqual(Recorder.common_divisor(other=12, one=18), 6)
        self.assertEqual(Machine(A).common_divisor(10 ** 40, -math.factorial(30)), math.gcd(10 ** 40, math.factorial(30)))

    def test_signatures(self):
        wanted = {
            Machine: {"__init__": "(self, net, *, phases=None)", "common_divisor": "(one, other)",
                      "made": "(*moduli, **options)", "begin_at": "(self, phases)",
                      "tick": "(self, *counters, times=1)", "rehearse": "(self, *calls)", "play": "(self, walk)"},
            Recorder: {"__init__": "(self, net, *, phases=None)", "tick": "(self, *counters, times=1)",
                       "undo": "(self, *, count=1)"},
            Odometer: {"__init__": "(self, *moduli, reading=0)", "begin_reading": "(self, number)",
                       "advance": "(self, times)"},
        }
        properties = {Machine: ("net", "carried", "phases"), Recorder: ("history",), Odometer: ("reading",)}
        for kind, methods in wanted.items():
            for name, signature in methods.items():
                self.assertIn(name, vars(kind))
                self.assertEqual(str(inspect.signature(getattr(kind, name))), signature, name)
            for name in properties[kind]:
                self.assertIsInstance(vars(kind)[name], property)
        self.assertEqual([kind.__bases__ for kind in wanted], [(object,), (Machine,), (Machine,)])
        self.assertEqual({kind.__module__ for kind in wanted}, {"carrynet.machines"})
        self.assertIsInstance(vars(Machine)["made"], classmethod)
        self.assertIsInstance(vars(Machine)["common_divisor"], staticmethod)
        self.assertTrue(inspect.isgeneratorfunction(Machine.play))


class Phases(Refusing):
    def test_assignment_changes_nothing_else(self):
        for machine in used_machines():
            before = face(machine)
            machine.phases = (1, 2, 3)
            self.assertEqual(face(machine), (before[0], (1, 2, 3), *before[2:]))
            self.assertIsNone(machine.begin_at((0, 5, 4)))
            self.assertEqual(face(machine), (before[0], (0, 5, 4), *before[2:]))
            self.assertIsNone(machine.begin_at(phases=(3, 0, 4)))
            self.assertEqual(face(machine), before)

    def test_wrong_states(self):
        for machine in used_machines():
            for value in [*not_tuples(), (), (0, 0), (0, 0, 0, 0)]:
                self.refuses(machine, ("InvalidPhases", None), setattr, machine, "phases", value)
                self.refuses(machine, ("InvalidPhases", None), machine.begin_at, value)
            for index, modulus in enumerate(NET[0]):
                for wrong in [*not_integers(), -1, modulus, 10 ** 999]:
                    value = put((0, 0, 0), index, wrong)
                    self.refuses(machine, ("InvalidPhases", index), setattr, machine, "phases", value)
                    self.refuses(machine, ("InvalidPhases", index), machine.begin_at, value)

    def test_net_and_carries_are_not_assigned(self):
        for machine in used_machines():
            for name, value in (("net", A), ("carried", (0, 0, 0)), ("history", ())):
                if hasattr(machine, name):
                    self.assertEqual(told(setattr, machine, name, value)[0], "AttributeError")


class Ticks(Refusing):
    def test_against_leaps(self):
        draw = Draw(1)
        for net in small_nets(1, 80) + large_nets(1, 30):
            for kind in KINDS:
                state = draw.state(net)
                machine = kind(net, phases=state)
                sums = (0,) * len(net[0])
                for counters, times in drawn_calls(draw, net, 8, most=draw.choice((1, 9, MOST))):
                    vector = tuple(times * counters.count(counter) for counter in range(len(net[0])))
                    state, carried = leap(net, state, vector)
                    sums = total(sums, carried)
                    self.assertEqual(machine.tick(*counters, times=times), carried)
                    self.assertEqual((machine.net, machine.phases, machine.carried), (net, state, sums))

    def test_once_without_times(self):
        for kind in KINDS:
            machine = kind(A, phases=(3, 5))
            self.assertEqual(machine.tick(0), (1, 1))
            self.assertEqual(machine.tick(0, 0, 0, 0), (1, 0))
            self.assertEqual((machine.phases, machine.carried), ((0, 5), (2, 1)))

    def test_without_counters(self):
        for machine in used_machines():
            before = (machine.phases, machine.carried)
            for times in (1, 0, -MOST, MOST):
                self.assertEqual(machine.tick(times=times), (0, 0, 0))
            self.assertEqual(machine.tick(), (0, 0, 0))
            self.assertEqual((machine.phases, machine.carried), before)
        self.assertEqual(Machine(TEN).tick(), (0,) * 10)

    def test_errors_of_vector_of(self):
        for machine in used_machines():
            for wrong in [*not_integers(), 3, -1, 10 ** 999]:
                self.refuses(machine, ("InvalidCounter", wrong), machine.tick, 0, wrong, 1, times=None)
            self.refuses(machine, ("NotAnInput", 1), machine.tick, 0, 1, times=None)
            self.refuses(machine, ("NotAnInput", 1), machine.tick, 1, times=0)
            for wrong in [*not_integers(), MOST + 1, -MOST - 1, 10 ** 999]:
                self.refuses(machine, ("InvalidTimes", wrong), machine.tick, 0, times=wrong)
                self.refuses(machine, ("InvalidTimes", wrong), machine.tick, times=wrong)

    def test_errors_carry_the_very_objects(self):
        for machine in used_machines():
            for value in not_integers():
                for function, named, field in ((machine.tick, {"times": value}, "times"),
                                               (lambda counter: machine.tick(counter), {"counter": value}, "counter")):
                    with self.assertRaises(ValueError) as caught:
                        function(**named)
                    self.assertIs(getattr(caught.exception, field), value)


class Rehearsals(Refusing):
    def test_against_a_machine_that_makes_them(self):
        draw = Draw(2)
        for net in small_nets(2, 60) + large_nets(2, 20):
            for kind in KINDS:
                machine = kind(net, phases=draw.state(net))
                machine.tick(*net[2])
                before = face(machine)
                other = Machine(net, phases=machine.phases)
                calls = drawn_calls(draw, net, draw.number(0, 6), most=draw.choice((9, MOST)))
                wanted = []
                for counters, times in calls:
                    carried = other.tick(*counters, times=times)
                    wanted.append((other.phases, carried))
                self.assertEqual(machine.rehearse(*calls), tuple(wanted))
                self.assertEqual(machine.rehearse(*calls), tuple(wanted))
                self.assertEqual(face(machine), before)

    def test_no_calls(self):
        for machine in used_machines():
            self.assertEqual(machine.rehearse(), ())
            self.assertEqual(machine.rehearse(((), 1)), (((3, 0, 4), (0, 0, 0)),))

    def test_errors_in_the_first_and_in_later_calls(self):
        wrong_calls = {
            ("InvalidCounter", 3): ((0, 1, 3), None), ("InvalidCounter", None): ((None, 3), 1),
            ("NotAnInput", 1): ((0, 1), None), ("InvalidTimes", None): ((0,), None),
            ("InvalidTimes", MOST + 1): ((), MOST + 1), ("InvalidTimes", "1"): ((2,), "1"),
        }
        right = ((0, 0, 2), 5)
        for machine in used_machines():
            for wanted, call in wrong_calls.items():
                for before in range(4):
                    self.refuses(machine, wanted, machine.rehearse, *[right] * before, call)
                    self.refuses(machine, wanted, machine.rehearse, *[right] * before, call, ((9,), 1), right)

    def test_ticks_afterwards_are_the_same(self):
        for machine in used_machines():
            (state, carried), = machine.rehearse(((0, 2, 2), 3))
            self.assertEqual(machine.tick(0, 2, 2, times=3), carried)
            self.assertEqual(machine.phases, state)


class Plays(Refusing):
    WALK = ((0, 1), (2, 1), (0, -1), (0, -1), (2, 1), (0, 1))

    def states(self, state, walk):
        found = []
        for counter, sign in walk:
            state = leap(NET, state, unit(NET, counter, sign))[0]
            found.append(state)
        return found

    def test_to_the_end(self):
        for machine in used_machines():
            before = face(machine)
            self.assertEqual(list(machine.play(self.WALK)), self.states((3, 0, 4), self.WALK))
            vector = (0, 0, 2)
            state, carried = leap(NET, (3, 0, 4), vector)
            self.assertEqual(face(machine), (NET, state, total(before[2], carried), *before[3:]))
            self.assertEqual(list(machine.play(walk=())), [])

    def test_one_thousand_steps(self):
        machine = Machine(A)
        self.assertEqual(len(list(machine.play(((0, 1),) * 1000))), 1000)
        self.assertEqual((machine.phases, machine.carried), ((0, 0), (250, 125)))

    def test_steps_are_made_when_they_are_requested(self):
        for machine in used_machines():
            before = face(machine)
            played = machine.play(self.WALK)
            self.assertEqual(face(machine), before)
            for count, state in enumerate(self.states((3, 0, 4), self.WALK), 1):
                self.assertEqual(next(played), state)
                vector = (0, 0, 0)
                for counter, sign in self.WALK[:count]:
                    vector = total(vector, unit(NET, counter, sign))
                after, carried = leap(NET, (3, 0, 4), vector)
                self.assertEqual(face(machine), (NET, after, total(before[2], carried), *before[3:]))
            self.assertIsNone(next(played, None))

    def test_left_early(self):
        for machine in used_machines():
            for state in machine.play(self.WALK):
                if state == (0, 3, 0):
                    break
            self.assertEqual(machine.phases, (0, 3, 0))
            machine.play(self.WALK).close()
            self.assertEqual(machine.phases, (0, 3, 0))

    def test_two_plays_in_turn(self):
        for machine in used_machines():
            one = machine.play(((0, 1), (0, 1), (0, 1)))
            other = machine.play(((2, 1), (2, 1)))
            found = [next(one), next(other), next(other), next(one), next(one)]
            self.assertEqual(found, [(0, 3, 4), (0, 3, 0), (0, 3, 1), (1, 3, 1), (2, 3, 1)])
            self.assertEqual((next(one, None), next(other, None)), (None, None))

    def test_changes_between_two_requests(self):
        for machine in used_machines():
            played = machine.play(((0, 1), (0, 1), (2, 1), (0, -1)))
            self.assertEqual(next(played), (0, 3, 4))
            machine.phases = (3, 5, 4)
            self.assertEqual(next(played), (0, 2, 4))
            machine.tick(0, times=3)
            self.assertEqual(next(played), (3, 2, 0))
            machine.begin_at((0, 0, 0))
            machine.rehearse(((0,), 3))
            self.assertEqual(next(played), (3, 3, 0))

    def test_the_state_when_the_first_step_is_requested(self):
        for machine in used_machines():
            played = machine.play(((0, 1),))
            machine.phases = (0, 0, 0)
            self.assertEqual(next(played), (1, 0, 0))

    def test_wrong_walks_are_refused_before_a_step_is_made(self):
        right = ((0, 1),) * 3
        for machine in used_machines():
            for value in [*not_tuples(), [(0, 1)], ((0, 1),) * 1001]:
                self.refuses(machine, ("InvalidWalk", None), first_of, machine.play, value)
            for step in [*not_tuples(), [0, 1], (0,), (1, 1), (3, 1), (0, 0), (0, 2), (0, True), (False, 1)]:
                self.refuses(machine, ("InvalidWalk", 3), first_of, machine.play, (*right, step))
                self.refuses(machine, ("InvalidWalk", 0), first_of, machine.play, (step, *right))
        self.assertEqual(told(first_of, Machine(TEN).play, ((0, 1),)), ("InvalidWalk", 0))


if __name__ == "__main__":
    unittest.main()
