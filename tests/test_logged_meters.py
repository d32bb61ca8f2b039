"""Logged meters: 13.2."""

import unittest

from carrynet.machines import Recorder
from carrynet.meters import LoggedMeter, Meter
from tests.draws import Draw, large_nets, small_nets
from tests.helpers import A, not_integers
from tests.machine_helpers import MOST, NET, Refusing, drawn_calls, face


class Undone(Refusing):
    def test_none_some_and_all_calls(self):
        draw = Draw(1)
        for net in small_nets(1, 50) + large_nets(1, 15):
            meter = LoggedMeter(net, output=draw.number(0, len(net[0]) - 1), phases=draw.state(net))
            faces = [face(meter)]
            for counters, times in drawn_calls(draw, net, 7, most=draw.choice((3, MOST))):
                meter.tick(*counters, times=times)
                faces.append(face(meter))
            for count in (0, 1, 2, 0, 4):
                self.assertIsNone(meter.undo(count=count))
                del faces[len(faces) - count:]
                self.assertEqual(face(meter), faces[-1])
            self.assertEqual((meter.history, meter.marks), ((), ()))

    def test_one_call_without_a_count(self):
        meter = LoggedMeter(A, output=1, phases=(3, 5))
        meter.tick(0)
        before = face(meter)
        meter.tick(0, 0, times=9)
        self.assertIsNone(meter.undo())
        self.assertEqual(face(meter), before)

    def test_across_an_assignment_of_the_output(self):
        for count, marks in ((0, (1, 0)), (1, (1,)), (2, ()), (3, ()), (4, ())):
            meter = LoggedMeter(NET, output=1, phases=(3, 5, 4))
            meter.tick(0)
            meter.tick(0, times=4)
            meter.output = 0
            self.assertEqual((meter.marks, len(meter.history)), ((), 2))
            meter.tick(0, times=5)
            meter.tick(2)
            meter.undo(count=count)
            self.assertEqual((meter.marks, len(meter.history)), (marks, 4 - count))
        self.assertEqual((meter.phases, meter.carried), ((3, 5, 4), (0, 0, 0)))

    def test_marks_of_calls_after_undoing(self):
        meter = LoggedMeter(A, output=0)
        meter.tick(0, times=4)
        meter.output = 1
        meter.undo()
        self.assertEqual((meter.marks, meter.history, meter.total), ((), (), 0))
        meter.tick(0, times=8)
        self.assertEqual((meter.marks, meter.history), ((1,), (((0,), 8),)))
        meter.measure(0)
        meter.tick(0, times=4)
        meter.undo()
        self.assertEqual((meter.marks, meter.history, meter.total), ((), (((0,), 8),), 2))
        meter.undo()
        self.assertEqual(face(meter), (A, (0, 0), (0, 0), (), 0, (), 0))

    def test_steps_between_the_calls(self):
        meter = LoggedMeter(A, output=0, phases=(3, 5))
        meter.tick(0)
        list(meter.play(((0, 1), (0, 1))))
        meter.rehearse(((0,), 9))
        meter.phases = (0, 0)
        meter.undo()
        # The opposite tick is made in the present state, and carries backwards there.
        self.assertEqual((meter.phases, meter.carried, meter.marks, meter.history), ((3, 3), (0, 0), (), ()))

    def test_undoing_makes_no_mark(self):
        meter = LoggedMeter(A, output=0)
        meter.tick(0, times=4)
        meter.tick(0, times=8)
        meter.undo()
        self.assertEqual((meter.marks, meter.total), ((1,), 1))

    def test_wrong_counts(self):
        meter = LoggedMeter(NET, output=1)
        meter.tick(0, times=8)
        meter.output = 0
        meter.tick(0, times=8)
        for wrong in [*not_integers(), -1, -10 ** 999]:
            self.refuses(meter, ("InvalidTimes", wrong), meter.undo, count=wrong)
        for many in (3, 4, 10 ** 999):
            self.refuses(meter, ("NothingToUndo", "undo"), meter.undo, count=many)
        meter.undo(count=2)
        self.refuses(meter, ("NothingToUndo", "undo"), meter.undo)


class Histories(Refusing):
    """It is a recorder and a meter."""

    def test_like_a_recorder(self):
        draw = Draw(11)
        for net in small_nets(11, 30):
            meter, recorder = LoggedMeter(net, output=0), Recorder(net)
            for counters, times in drawn_calls(draw, net, 6):
                self.assertEqual(meter.tick(*counters, times=times), recorder.tick(*counters, times=times))
                self.assertEqual(face(meter)[:4], face(recorder))
                self.assertEqual(len(meter.marks), len(meter.history))
        self.assertIsInstance(meter, Recorder)
        self.assertIsInstance(meter, Meter)

    def test_failed_calls_have_no_marks_and_are_not_recorded(self):
        meter = LoggedMeter(NET, output=1)
        meter.tick(0, times=5)
        for counters, times, wanted in (((3,), 1, ("InvalidCounter", 3)), ((1,), 1, ("NotAnInput", 1)),
                                        ((0,), None, ("InvalidTimes", None))):
            self.refuses(meter, wanted, meter.tick, *counters, times=times)

    def test_assigning_the_output_keeps_the_history(self):
        meter = LoggedMeter(NET, output=1)
        meter.tick(0, 2, times=5)
        meter.output = 2
        self.assertEqual((meter.history, meter.marks), ((((0, 2), 5),), ()))


class Twins(Refusing):
    def test_the_same_and_independent(self):
        meter = LoggedMeter(NET, output=0, phases=(3, 5, 4))
        meter.tick(0, times=7)
        meter.output = 1
        meter.tick(0, 2, times=9)
        list(meter.play(((0, 1),)))
        before = face(meter)
        twin = meter.twin()
        self.assertIs(type(twin), LoggedMeter)
        self.assertEqual(face(twin), before)
        twin.tick(0, times=5)
        twin.undo(count=3)
        twin.output = 2
        twin.phases = (0, 0, 0)
        self.assertEqual(face(meter), before)
        twin = meter.twin()
        meter.tick(0)
        meter.measure(2)
        self.assertEqual(face(twin), before)


if __name__ == "__main__":
    unittest.main()
