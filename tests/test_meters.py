"""Meters: 13.1."""

import inspect
import itertools
import unittest
from fractions import Fraction

from carrynet.machines import Machine, Recorder
from carrynet.meters import LoggedMeter, Meter
from carrynet.nets import make_net
from carrynet.rates import offset_of, rate_of
from carrynet.ticks import vector_of
from tests.draws import Draw, large_nets, small_nets
from tests.helpers import A, TEN, first_of, not_integers, not_tuples, told
from tests.machine_helpers import MOST, NET, Refusing, drawn_calls, face
from tests.refusals import InOrder

KINDS = (Meter, LoggedMeter)


def used_meters():
    """A meter of each kind with the state (3, 0, 4), the output 1 and two marks."""
    for kind in KINDS:
        meter = kind(NET, output=0, phases=(0, 3, 0))
        meter.tick(2, times=-1)
        meter.output = 1
        meter.tick(0, times=6)
        meter.tick(0)
        yield meter


class Creation(InOrder):
    def test_begins_without_marks(self):
        for kind in KINDS:
            for meter in (kind(A, output=1), kind(A, output=1, phases=None), kind(net=A, output=1)):
                self.assertEqual((meter.net, meter.phases, meter.carried), (A, (0, 0), (0, 0)))
                self.assertEqual((meter.output, meter.marks, meter.total), (1, (), 0))
            meter = kind(phases=(3, 5), output=0, net=A)
            self.assertEqual((meter.phases, meter.output, meter.marks), ((3, 5), 0, ()))
            self.assertEqual(kind(TEN, output=9, phases=(1,) * 10).phases, (1,) * 10)

    def test_errors_in_their_order(self):
        nets = [("net", None, ("InvalidNet", "form", None)), ("net", (*NET[:2], (3,)), ("InvalidNet", "inputs", 0))]
        outputs = [("output", wrong, ("InvalidCounter", wrong)) for wrong in (3, -1, True, None, "0", (0,))]
        phases = [("phases", wrong, ("InvalidPhases", index)) for wrong, index in (
            ((0, 0), None), ([0, 0, 0], None), ((4, 6, 0), 0), ((0, 0, True), 2), ("", None))]
        for kind in KINDS:
            right = {"net": NET, "output": 2, "phases": (3, 5, 4)}
            self.refuses_in_order(kind, right, [*nets, *outputs, *phases])

    def test_wrong_kinds(self):
        for kind in KINDS:
            for value in not_tuples():
                self.tells(kind, {"net": value, "output": value, "phases": value}, ("InvalidNet", "form", None))
                if value is not None:
                    self.tells(kind, {"net": NET, "output": 0, "phases": value}, ("InvalidPhases", None))
            for wrong in [*not_integers(), -1, 3, 10 ** 999]:
                self.tells(kind, {"net": NET, "output": wrong, "phases": wrong}, ("InvalidCounter", wrong))

    def test_output_is_needed_and_keyword_only(self):
        for kind in KINDS:
            self.assertEqual(told(kind, A)[0], "TypeError")
            self.assertEqual(told(kind, A, 0)[0], "TypeError")


class Interface(unittest.TestCase):
    def test_bases(self):
        self.assertEqual(Meter.__bases__, (Machine,))
        self.assertEqual(sorted(kind.__name__ for kind in LoggedMeter.__bases__), ["Meter", "Recorder"])
        self.assertTrue(issubclass(LoggedMeter, Recorder) and issubclass(LoggedMeter, Meter))
        self.assertEqual({kind.__module__ for kind in KINDS}, {"carrynet.meters"})

    def test_methods_of_the_class_itself(self):
        wanted = {"__init__": "(self, net, *, output, phases=None)", "measure": "(self, output)",
                  "tick": "(self, *counters, times=1)", "rehearse": "(self, *calls)", "play": "(self, walk)",
                  "expected": "(self, *counters, times=1)"}
        for name, signature in wanted.items():
            self.assertEqual(str(inspect.signature(vars(Meter)[name])), signature, name)
        self.assertEqual(str(inspect.signature(vars(LoggedMeter)["__init__"])), wanted["__init__"])
        self.assertIsInstance(vars(Meter)["made"], classmethod)
        for name in ("output", "total", "marks"):
            self.assertIsInstance(vars(Meter)[name], property)
        self.assertTrue(inspect.isgeneratorfunction(Meter.play))


class Made(unittest.TestCase):
    def test_the_option_output(self):
        for kind in KINDS:
            meter = kind.made(4, 6, wires=((0, 1, 3),), inputs=(0,), output=1)
            self.assertIs(type(meter), kind)
            self.assertEqual((meter.net, meter.phases, meter.output, meter.marks), (A, (0, 0), 1, ()))
            self.assertEqual(kind.made(4, 6).output, 0)
            self.assertEqual(kind.made(2, 2, 5, output=2).net, make_net(2, 2, 5))
            self.assertIs(type(meter.made(2)), kind)

    def test_object_of_the_class_on_which_it_is_called(self):
        class Own(LoggedMeter):
            pass

        self.assertIs(type(Own.made(4, 6, output=1)), Own)

    def test_errors(self):
        for kind in KINDS:
            self.assertEqual(told(kind.made), ("InvalidNet", "moduli", None))
            self.assertEqual(told(kind.made, 4, 1, output=None), ("InvalidNet", "moduli", 1))
            self.assertEqual(told(kind.made, 4, 6, wires=((1, 0, 3),), output=9), ("InvalidNet", "wires", 0))
            self.assertEqual(told(kind.made, 4, 6, inputs=(0, 2), output=9), ("InvalidNet", "inputs", 1))
            for wrong in [*not_integers(), -1, 2]:
                self.assertEqual(told(kind.made, 4, 6, output=wrong), ("InvalidCounter", wrong))


class AgainstMachines(Refusing):
    def test_marks_totals_and_outputs(self):
        draw = Draw(1)
        for net in small_nets(1, 60) + large_nets(1, 20):
            for kind in KINDS:
                state, output = draw.state(net), draw.number(0, len(net[0]) - 1)
                meter, machine = kind(net, output=output, phases=state), Machine(net, phases=state)
                marks = ()
                for counters, times in drawn_calls(draw, net, 12, most=draw.choice((1, 9, MOST))):
                    if draw.number(0, 4) == 0:
                        output, marks = draw.number(0, len(net[0]) - 1), ()
                        meter.output = output
                    carried = machine.tick(*counters, times=times)
                    self.assertEqual(meter.tick(*counters, times=times), carried)
                    marks = (*marks, carried[output])
                    self.assertEqual((meter.output, meter.marks), (output, marks))
                    self.assertEqual(meter.total, machine.carried[output])
                    self.assertEqual((meter.net, meter.phases, meter.carried), face(machine))

    def test_rehearsals(self):
        draw = Draw(2)
        for net in small_nets(2, 30) + large_nets(2, 10):
            for kind in KINDS:
                state = draw.state(net)
                meter, machine = kind(net, output=0, phases=state), Machine(net, phases=state)
                meter.tick(*net[2])
                machine.tick(*net[2])
                before = face(meter)
                calls = drawn_calls(draw, net, 4)
                self.assertEqual(meter.rehearse(*calls), machine.rehearse(*calls))
                self.assertEqual(face(meter), before)

    def test_plays(self):
        walk = ((0, 1), (2, 1), (0, -1), (0, -1), (2, 1), (0, 1))
        for meter in used_meters():
            machine = Machine(NET, phases=meter.phases)
            before = face(meter)
            played = meter.play(walk)
            self.assertEqual(face(meter), before)
            for state in machine.play(walk):
                self.assertEqual(next(played), state)
                self.assertEqual(meter.phases, state)
                self.assertEqual(meter.marks, (1, 0))
            self.assertIsNone(next(played, None))
            self.assertEqual(meter.carried, tuple(map(sum, zip(before[2], machine.carried))))
            self.assertEqual(meter.total, meter.carried[1])

    def test_a_play_that_is_left(self):
        for meter in used_meters():
            found = list(itertools.islice(meter.play(walk=((0, 1),) * 1000), 3))
            self.assertEqual((found[-1], meter.phases, meter.marks), ((2, 3, 4), (2, 3, 4), (1, 0)))

    def test_calls_without_counters_have_marks(self):
        for meter in used_meters():
            meter.tick()
            meter.tick(times=0)
            self.assertEqual(meter.marks, (1, 0, 0, 0))

    def test_assigned_phases_make_no_marks(self):
        for meter in used_meters():
            before = face(meter)
            meter.phases = (1, 2, 3)
            meter.begin_at((0, 0, 0))
            self.assertEqual(face(meter), (before[0], (0, 0, 0), *before[2:]))


class Outputs(Refusing):
    def test_assignment(self):
        for meter in used_meters():
            before = face(meter)
            meter.output = 2
            self.assertEqual(face(meter), (*before[:-3], 2, (), -1))
            meter.tick(2, times=7)
            self.assertEqual((meter.marks, meter.total), ((2,), 1))
            self.assertIsNone(meter.measure(0))
            self.assertEqual((meter.output, meter.marks, meter.total), (0, (), 1))
            self.assertIsNone(meter.measure(output=1))
            self.assertEqual((meter.output, meter.marks, meter.total), (1, (), 1))

    def test_the_same_output_again(self):
        for meter in used_meters():
            meter.output = 1
            self.assertEqual((meter.output, meter.marks, meter.total), (1, (), 1))

    def test_wrong_outputs(self):
        for meter in used_meters():
            for wrong in [*not_integers(), -1, 3, 10 ** 999]:
                self.refuses(meter, ("InvalidCounter", wrong), setattr, meter, "output", wrong)
                self.refuses(meter, ("InvalidCounter", wrong), meter.measure, wrong)

    def test_marks_are_values_of_the_caller(self):
        for meter in used_meters():
            before = meter.marks
            meter.tick(0)
            self.assertEqual((before, type(before), meter.marks), ((1, 0), tuple, (1, 0, 0)))

    def test_marks_and_total_are_not_assigned(self):
        for meter in used_meters():
            for name in ("marks", "total"):
                self.assertEqual(told(setattr, meter, name, ())[0], "AttributeError")

    def test_two_meters_do_not_share_marks(self):
        for kind in KINDS:
            one, other = kind(NET, output=0), kind(NET, output=0)
            one.tick(0, times=4)
            self.assertEqual((one.marks, other.marks), ((1,), ()))


class Failures(Refusing):
    def test_ticks_and_rehearsals(self):
        for meter in used_meters():
            for wrong in [*not_integers(), 3, -1, 10 ** 999]:
                wanted = ("InvalidCounter", wrong)
                self.refuses(meter, wanted, meter.tick, 0, wrong, 1, times=None)
                self.refuses(meter, wanted, meter.expected, 0, wrong, 1, times=None)
                self.refuses(meter, wanted, meter.rehearse, ((0,), 4), ((0, wrong, 1), None))
            for wrong in [*not_integers(), MOST + 1, -MOST - 1]:
                wanted = ("InvalidTimes", wrong)
                self.refuses(meter, wanted, meter.tick, 0, times=wrong)
                self.refuses(meter, wanted, meter.expected, times=wrong)
                self.refuses(meter, wanted, meter.rehearse, ((0,), 4), ((), wrong))
            self.refuses(meter, ("NotAnInput", 1), meter.tick, 0, 1, times=None)
            self.refuses(meter, ("NotAnInput", 1), meter.expected, 0, 1, times=None)
            self.refuses(meter, ("NotAnInput", 1), meter.rehearse, ((0,), 4), ((1,), None))

    def test_plays_and_phases(self):
        for meter in used_meters():
            for value in not_tuples():
                self.refuses(meter, ("InvalidWalk", None), first_of, meter.play, value)
                self.refuses(meter, ("InvalidPhases", None), setattr, meter, "phases", value)
            self.refuses(meter, ("InvalidWalk", 1), first_of, meter.play, ((0, 1), (1, 1)))

    def test_ticks_after_a_failure(self):
        for meter in used_meters():
            self.assertEqual(told(meter.tick, 0, 3), ("InvalidCounter", 3))
            meter.tick(0, times=8)
            self.assertEqual(meter.marks, (1, 0, 1))


class Expected(unittest.TestCase):
    def test_the_rate_of_the_vector(self):
        draw = Draw(31)
        for net in small_nets(31, 50) + large_nets(31, 20):
            for kind in KINDS:
                output = draw.number(0, len(net[0]) - 1)
                meter = kind(net, output=output, phases=draw.state(net))
                for counters, times in drawn_calls(draw, net, 4, most=draw.choice((9, MOST))):
                    before = face(meter)
                    found = meter.expected(*counters, times=times)
                    self.assertEqual(found, rate_of(net, vector_of(net, *counters, times=times), output))
                    self.assertEqual(face(meter), before)
                    # 8.3
                    state = meter.phases
                    mark = meter.tick(*counters, times=times)[output]
                    change = Fraction(*offset_of(net, state, output)) - Fraction(*offset_of(net, meter.phases, output))
                    self.assertEqual(Fraction(*found) + change, mark)

    def test_once_without_times(self):
        for kind in KINDS:
            meter = kind(A, output=1)
            self.assertEqual((meter.expected(0), meter.expected(0, 0), meter.expected()), ((1, 8), (1, 4), (0, 1)))
            self.assertEqual(meter.expected(0, times=-8), (-1, 1))
            meter.output = 0
            self.assertEqual(meter.expected(0, times=3), (3, 4))


if __name__ == "__main__":
    unittest.main()
