"""Recorders and odometers: 7.2 and 7.3."""

import itertools
import math
import unittest

from carrynet.machines import Machine, Odometer, Recorder
from carrynet.nets import chain
from tests.draws import Draw, large_nets, small_nets
from tests.helpers import A, leap, not_integers, not_tuples, told, total
from tests.machine_helpers import MOST, NET, Refusing, drawn_calls, face


class Histories(Refusing):
    """7.2."""

    def test_calls_are_recorded_as_they_were_made(self):
        recorder = Recorder(NET)
        self.assertEqual(recorder.history, ())
        recorder.tick(0)
        recorder.tick(2, 0, 2, times=-7)
        recorder.tick()
        recorder.tick(times=0)
        self.assertEqual(recorder.history, (((0,), 1), ((2, 0, 2), -7), ((), 1), ((), 0)))
        self.assertEqual([(type(counters), type(times)) for counters, times in recorder.history], [(tuple, int)] * 4)

    def test_failed_calls_are_not_recorded(self):
        recorder = Recorder(NET)
        recorder.tick(0, times=5)
        for counters, times, wanted in (((3,), 1, ("InvalidCounter", 3)), ((1,), 1, ("NotAnInput", 1)),
                                        ((0,), None, ("InvalidTimes", None))):
            self.refuses(recorder, wanted, recorder.tick, *counters, times=times)

    def test_what_is_not_recorded(self):
        recorder = Recorder(NET)
        recorder.tick(0)
        list(recorder.play(((0, 1), (2, -1))))
        recorder.rehearse(((0,), 1), ((2,), 2))
        recorder.phases = (3, 5, 4)
        recorder.begin_at((3, 5, 3))
        self.assertEqual(recorder.history, (((0,), 1),))

    def test_it_is_a_value_of_the_caller(self):
        recorder = Recorder(NET)
        recorder.tick(0)
        before = recorder.history
        recorder.tick(2)
        self.assertEqual(before, (((0,), 1),))
        self.assertEqual(recorder.history, (*before, ((2,), 1)))

    def test_two_recorders_do_not_share_it(self):
        one, other = Recorder(NET), Recorder(NET)
        one.tick(0)
        self.assertEqual((one.history, other.history), ((((0,), 1),), ()))


class Undone(Refusing):
    """7.2."""

    def test_none_some_and_all_calls(self):
        draw = Draw(1)
        for net in small_nets(1, 40) + large_nets(1, 10):
            recorder = Recorder(net, phases=draw.state(net))
            faces = [face(recorder)]
            for counters, times in drawn_calls(draw, net, 7, most=draw.choice((3, MOST))):
                recorder.tick(*counters, times=times)
                faces.append(face(recorder))
            for count in (0, 1, 2, 0, 4):
                self.assertIsNone(recorder.undo(count=count))
                del faces[len(faces) - count:]
                self.assertEqual(face(recorder), faces[-1])
            self.assertEqual(recorder.history, ())
            self.assertIsNone(recorder.undo(count=0))

    def test_one_call_without_a_count(self):
        recorder = Recorder(A)
        recorder.tick(0)
        before = face(recorder)
        recorder.tick(0, 0, times=9)
        self.assertIsNone(recorder.undo())
        self.assertEqual(face(recorder), before)

    def test_all_at_once(self):
        draw = Draw(2)
        for net in small_nets(2, 30):
            recorder = Recorder(net, phases=draw.state(net))
            before = face(recorder)
            for counters, times in drawn_calls(draw, net, 9):
                recorder.tick(*counters, times=times)
            recorder.undo(count=9)
            self.assertEqual(face(recorder), before)

    def test_after_an_assignment_and_a_play(self):
        draw = Draw(3)
        for net in small_nets(3, 60) + large_nets(3, 20):
            recorder = Recorder(net)
            vector = (0,) * len(net[0])
            for counters, times in drawn_calls(draw, net, 4):
                recorder.tick(*counters, times=times)
                vector = total(vector, tuple(-times * counters.count(index) for index in range(len(net[0]))))
            state = draw.state(net)
            recorder.phases = state
            walk = tuple((counter, 1) for counter in net[2])
            list(recorder.play(walk))
            carried = recorder.carried
            # The opposite ticks are made in the present state, and not in the one after the calls.
            wanted, opposite = leap(net, recorder.phases, vector)
            recorder.undo(count=4)
            self.assertEqual(face(recorder), (net, wanted, total(carried, opposite), ()))

    def test_an_assigned_state(self):
        recorder = Recorder(A, phases=(3, 5))
        recorder.tick(0)
        recorder.phases = (0, 0)
        recorder.undo()
        self.assertEqual(face(recorder), (A, (3, 3), (0, 0), ()))
        recorder.tick(0)
        recorder.phases = (1, 2)
        recorder.undo()
        self.assertEqual(face(recorder), (A, (0, 2), (1, 1), ()))

    def test_calls_after_an_undo(self):
        recorder = Recorder(A)
        recorder.tick(0)
        recorder.tick(0, times=2)
        recorder.undo()
        recorder.tick(0, times=3)
        self.assertEqual(recorder.history, (((0,), 1), ((0,), 3)))
        recorder.undo(count=2)
        self.assertEqual(face(recorder), (A, (0, 0), (0, 0), ()))

    def test_too_many_calls(self):
        recorder = Recorder(A, phases=(3, 5))
        self.refuses(recorder, ("NothingToUndo", "undo"), recorder.undo)
        recorder.tick(0)
        recorder.tick(0, times=7)
        for count in (3, 4, MOST, 10 ** 999):
            self.refuses(recorder, ("NothingToUndo", "undo"), recorder.undo, count=count)
        recorder.undo(count=2)
        for count in (1, 2):
            self.refuses(recorder, ("NothingToUndo", "undo"), recorder.undo, count=count)

    def test_wrong_counts(self):
        recorder = Recorder(A)
        for ticks in range(2):
            for wrong in [*not_integers(), -1, -2, -10 ** 999]:
                self.refuses(recorder, ("InvalidTimes", wrong), recorder.undo, count=wrong)
                with self.assertRaises(ValueError) as caught:
                    recorder.undo(count=wrong)
                self.assertIs(caught.exception.times, wrong)
            recorder.tick(0, times=ticks)


class Readings(Refusing):
    """7.3."""

    def test_creation(self):
        odometer = Odometer(10, 10, 10)
        self.assertEqual(face(odometer), (chain(10, 10, 10), (0, 0, 0), (0, 0, 0), 0))
        self.assertIsInstance(odometer, Machine)
        self.assertNotIsInstance(odometer, Recorder)
        self.assertEqual(Odometer(4, 6, reading=23).phases, (3, 5))
        self.assertEqual(Odometer(7, reading=6).phases, (6,))
        self.assertEqual(Odometer(*[1000] * 10, reading=10 ** 30 - 1).phases, (999,) * 10)

    def test_each_reading(self):
        for moduli in ((2,), (4, 6), (2, 3, 4), (5, 2, 2)):
            states = [state[::-1] for state in itertools.product(*[range(modulus) for modulus in moduli[::-1]])]
            odometer = Odometer(*moduli)
            for number, state in enumerate(states):
                self.assertEqual(Odometer(*moduli, reading=number).phases, state)
                odometer.reading = number
                self.assertEqual((odometer.phases, odometer.reading), (state, number))
                odometer.phases = (0,) * len(moduli)
                self.assertIsNone(odometer.begin_reading(number))
                self.assertEqual((odometer.phases, odometer.reading), (state, number))
                odometer.begin_at(state)
                self.assertEqual(odometer.reading, number)

    def test_a_tick_adds_one(self):
        for moduli in ((2,), (4, 6), (2, 3, 4)):
            odometer = Odometer(*moduli)
            most = math.prod(moduli)
            for number in range(1, 2 * most + 1):
                self.assertEqual(odometer.tick(0)[-1], 1 if number % most == 0 else 0)
                self.assertEqual(odometer.reading, number % most)

    def test_large_odometers(self):
        draw = Draw(4)
        for _ in range(40):
            moduli = [draw.number(2, 1000) for _ in range(draw.number(1, 10))]
            most = math.prod(moduli)
            number = draw.number(0, most - 1)
            odometer = Odometer(*moduli, reading=number)
            self.assertEqual(odometer.reading, number)
            for times in (draw.number(-MOST, MOST), MOST, -MOST, 0, 1, -1):
                rounds, number = divmod(number + times, most)
                self.assertEqual(odometer.advance(times), rounds)
                self.assertEqual(odometer.reading, number)

    def test_at_the_greatest_reading(self):
        odometer = Odometer(10, 10, 10, reading=999)
        self.assertEqual((odometer.advance(1), odometer.reading, odometer.carried), (1, 0, (1, 1, 1)))
        self.assertEqual((odometer.advance(-1), odometer.reading, odometer.carried), (-1, 999, (0, 0, 0)))
        self.assertEqual((odometer.advance(MOST), odometer.reading), (10 ** 9, 999))
        self.assertEqual((odometer.advance(times=-MOST), odometer.reading), (-10 ** 9, 999))
        self.assertEqual((odometer.advance(1001), odometer.reading), (2, 0))

    def test_assignments_change_the_phases_only(self):
        odometer = Odometer(4, 6)
        odometer.advance(30)
        odometer.reading = 5
        self.assertEqual(face(odometer), (chain(4, 6), (1, 1), (7, 1), 5))
        odometer.begin_reading(number=23)
        self.assertEqual(face(odometer), (chain(4, 6), (3, 5), (7, 1), 23))

    def test_it_is_a_machine(self):
        odometer = Odometer(4, 6, reading=3)
        self.assertEqual(odometer.rehearse(((0,), 2), ((), 1)), (((1, 1), (1, 0)), ((1, 1), (0, 0))))
        self.assertEqual(list(odometer.play(((0, 1), (0, 1)))), [(0, 1), (1, 1)])
        self.assertEqual(odometer.reading, 5)

    def test_wrong_moduli_come_first(self):
        self.assertEqual(told(Odometer), ("InvalidNet", "moduli", None))
        self.assertEqual(told(Odometer, reading=None), ("InvalidNet", "moduli", None))
        self.assertEqual(told(Odometer, *[2] * 11, reading=None), ("InvalidNet", "moduli", None))
        self.assertEqual(told(Odometer, 4, 1001, reading=None), ("InvalidNet", "moduli", 1))
        for value in not_tuples():
            self.assertEqual(told(Odometer, 4, value if value != 2 else None), ("InvalidNet", "moduli", 1))

    def test_wrong_readings(self):
        odometer = Odometer(4, 6, reading=9)
        odometer.advance(20)
        for wrong in [*not_integers(), -1, 24, 25, 10 ** 999, -10 ** 999]:
            self.assertEqual(told(Odometer, 4, 6, reading=wrong), ("InvalidReading", wrong))
            self.refuses(odometer, ("InvalidReading", wrong), setattr, odometer, "reading", wrong)
            self.refuses(odometer, ("InvalidReading", wrong), odometer.begin_reading, wrong)
            with self.assertRaises(ValueError) as caught:
                odometer.reading = wrong
            self.assertIs(caught.exception.number, wrong)
            with self.assertRaises(ValueError) as caught:
                Odometer(4, 6, reading=wrong)
            self.assertIs(caught.exception.number, wrong)

    def test_wrong_times(self):
        odometer = Odometer(4, 6, reading=9)
        for wrong in [*not_integers(), MOST + 1, -MOST - 1, 10 ** 999]:
            self.refuses(odometer, ("InvalidTimes", wrong), odometer.advance, wrong)
        self.refuses(odometer, ("NotAnInput", 1), odometer.tick, 1)
        self.refuses(odometer, ("InvalidPhases", 1), odometer.begin_at, (0, 6))


if __name__ == "__main__":
    unittest.main()
