"""Sessions: 13.3."""

import inspect
import itertools
import unittest

from carrynet.machines import Machine
from carrynet.meters import LoggedMeter
from carrynet.session import Session
from carrynet.texts import net_text
from tests.draws import Draw, small_nets
from tests.helpers import A, TEN, not_tuples, told
from tests.machine_helpers import face
from tests.refusals import InOrder

TEXT = "4 6 5 0>1:3 @0 @2"
NET = ((4, 6, 5), ((0, 1, 3),), (0, 2))
WORDS = ("net", "tick", "undo", "phases", "output", "show", "carried", "marks", "save", "rate", "forecast", "way")


def executed(text, *commands):
    """A session with the net of the text, after these commands."""
    session = Session.from_text(text)
    for command in commands:
        session.execute(command)
    return session


def answers(text, *commands):
    return list(Session.from_text(text).execute_all(*commands))


class Creation(InOrder):
    def test_without_a_net(self):
        session = Session()
        self.assertEqual(face(session.meter), (((2,), (), (0,)), (0,), (0,), (), 0, (), 0))

    def test_with_a_net(self):
        for net in small_nets(1, 20) + [A, TEN, NET]:
            for session in (Session(net), Session(net=net), Session.from_text(net_text(net))):
                zeros = (0,) * len(net[0])
                self.assertEqual(face(session.meter), (net, zeros, zeros, (), 0, (), 0))

    def test_wrong_nets(self):
        for value in not_tuples():
            self.tells(Session, {"net": value}, ("InvalidNet", "form", None))
        self.tells(Session, {"net": ((4, 1), (), ())}, ("InvalidNet", "moduli", 1))
        self.tells(Session, {"net": (*NET[:2], (3,))}, ("InvalidNet", "inputs", 0))

    def test_wrong_texts(self):
        for text, word in (("", 1), ("4 1", 2), ("4 6 1>0:3 @0", 3), (" 4", 1), (None, 0), (A, 0), (b"4", 0), (4, 0)):
            self.tells(Session.from_text, {"text": text}, ("InvalidText", word))
        for value in not_tuples():
            if not isinstance(value, str):
                self.tells(Session.from_text, {"text": value}, ("InvalidText", 0))

    def test_the_class_on_which_it_is_called(self):
        class Own(Session):
            pass

        self.assertIs(type(Own.from_text(TEXT)), Own)
        self.assertIs(type(Session.from_text(text=TEXT)), Session)
        self.assertEqual(Own.from_text(TEXT).meter.net, NET)

    def test_interface(self):
        wanted = {"__init__": "(self, net=((2,), (), (0,)))", "execute": "(self, command)",
                  "execute_all": "(self, *commands)", "attempt": "(self, *commands)"}
        for name, signature in wanted.items():
            self.assertEqual(str(inspect.signature(vars(Session)[name])), signature)
        self.assertIsInstance(vars(Session)["from_text"], classmethod)
        self.assertIsInstance(vars(Session)["is_command"], staticmethod)
        self.assertIsInstance(vars(Session)["meter"], property)
        self.assertEqual(str(inspect.signature(Session.from_text)), "(text)")
        self.assertEqual(str(inspect.signature(Session.is_command)), "(value)")
        self.assertTrue(inspect.isgeneratorfunction(Session.execute_all))


class Beginnings(unittest.TestCase):
    """is_command."""

    def test_the_words_of_the_table(self):
        for word in WORDS:
            for rest in ("", " ", " x", "  ", " 1 2 3", " \n"):
                self.assertIs(Session.is_command(word + rest), True)
                self.assertIs(Session().is_command(value=word + rest), True)

    def test_other_words(self):
        for word in WORDS:
            for other in (" " + word, word + "s", word.upper(), word[:-1], word + "\n", word + "\nx",
                          "x" + word, word + "-"):
                self.assertIs(Session.is_command(other), False)
        for value in ("", " ", "\n", "NET", "STATE", "done", "none", "never", "perform", "x" * 1000):
            self.assertIs(Session.is_command(value), False)

    def test_what_is_no_string(self):
        for value in [*not_tuples(), (), ("show",), ["show"], b"show", {"show": 1}]:
            if not isinstance(value, str):
                self.assertIs(Session.is_command(value), False)


class Commands(unittest.TestCase):
    """Each row of the table of 13.3, with right words."""

    def test_net(self):
        session = executed(TEXT, "phases 3 5 4", "output 1", "tick 8 0", "tick 1 2")
        self.assertEqual(session.execute("net 2 3 0>1:-1 @1"), "done")
        self.assertEqual(face(session.meter), (((2, 3), ((0, 1, -1),), (1,)), (0, 0), (0, 0), (), 0, (), 0))
        self.assertEqual(session.execute("undo"), "nothing to undo")
        for net in small_nets(2, 30):
            self.assertEqual(session.execute("net " + net_text(net)), "done")
            self.assertEqual(session.meter.net, net)

    def test_tick(self):
        self.assertEqual(answers(TEXT, "tick 10 0", "tick 1", "tick -1 0 0 2", "tick 0 2 2", "show", "carried"),
                         ["2 1 0", "0 0 0", "0 0 -1", "0 0 0", "0 0 4", "2 1 -1"])
        session = executed(TEXT, "tick 10 0", "tick 1", "tick -3 0 2 0")
        self.assertEqual(session.meter.history, (((0,), 10), ((), 1), ((0, 2, 0), -3)))

    def test_most_ticks(self):
        most = 999999999999
        for command in (f"tick {most} 0", f"tick -{most} 0 0 2 0", "tick 1 " + "0 " * 400 + "2"):
            words = command.split(" ")
            counters = tuple(map(int, words[2:]))
            carried = Machine(NET).tick(*counters, times=int(words[1]))
            session = executed(TEXT)
            self.assertEqual(session.execute(command), " ".join(map(str, carried)))
            self.assertEqual(session.meter.history, ((counters, int(words[1])),))

    def test_undo(self):
        session = executed(TEXT, "phases 3 5 4", "tick 1 0", "output 1", "tick 9 0 2")
        self.assertEqual(session.meter.marks, (1,))
        self.assertEqual(session.execute("undo"), "done")
        self.assertEqual(face(session.meter), (NET, (0, 2, 4), (1, 1, 0), (((0,), 1),), 1, (), 1))
        self.assertEqual(session.execute("undo"), "done")
        self.assertEqual(face(session.meter), (NET, (3, 5, 4), (0, 0, 0), (), 1, (), 0))

    def test_phases(self):
        session = executed(TEXT, "tick 9 0 2")
        before = face(session.meter)
        self.assertEqual(session.execute("phases 3 5 4"), "done")
        self.assertEqual(face(session.meter), (NET, (3, 5, 4), *before[2:]))
        self.assertEqual(session.execute("phases 0 0 0"), "done")
        self.assertEqual(session.execute("show"), "0 0 0")

    def test_output(self):
        session = executed(TEXT, "tick 9 0 2")
        before = face(session.meter)
        self.assertEqual(session.execute("output 2"), "done")
        self.assertEqual(face(session.meter), (*before[:4], 2, (), 1))
        self.assertEqual([session.execute(f"output {counter}") for counter in (0, 1, 2)], ["done"] * 3)

    def test_show_carried_marks_and_save(self):
        for text in (TEXT, "7", "2 2 2 2 2 2 2 2 2 2"):
            zeros = " ".join("0" for word in text.split(" ") if word.isdigit())
            self.assertEqual(answers(text, "show", "carried", "marks", "save"), [zeros, zeros, "none", text])
        session = executed(TEXT, "phases 3 5 4", "tick 4 0", "tick -5 2", "tick 0")
        self.assertEqual(list(session.execute_all("show", "carried", "marks", "save")),
                         ["3 2 4", "1 1 -1", "1 0 0", TEXT])
        session.execute("net 4 6 0>1:3 @0")
        self.assertEqual(session.execute("save"), "4 6 0>1:3 @0")

    def test_rate(self):
        self.assertEqual(answers(TEXT, "rate 0", "rate 1", "rate 2"), ["1/4", "0", "0"])
        self.assertEqual(answers(TEXT, "output 1", "rate 0", "rate 1", "rate 2"), ["done", "1/8", "1/6", "0"])
        self.assertEqual(answers("2 3 0>1:-1", "output 1", "rate 0", "rate 1"), ["done", "-1/6", "1/3"])
        self.assertEqual(answers("2 2 0>1:100", "output 1", "rate 0"), ["done", "25"])

    def test_forecast(self):
        self.assertEqual(answers(TEXT, "forecast 0 1", "forecast 0 2", "forecast 2 1", "forecast 2 1000000"),
                         ["4", "8", "never", "never"])
        self.assertEqual(answers(TEXT, "output 1", "forecast 0 1", "phases 3 5 0"), ["done", "8", "done"])
        session = executed(TEXT, "output 1", "phases 3 5 0")
        self.assertEqual(session.attempt("forecast 0 1", "forecast 0 1000000"), ("1", "7999993"))

    def test_way(self):
        self.assertEqual(answers(TEXT, "way 0 0 0", "way 1 3 4", "way 0 1 0", "phases 1 3 4", "way 0 0 0"),
                         ["0 0 0", "-3 0 -1", "no way", "done", "3 0 1"])
        self.assertEqual(answers("2 2 0>1:1 @0 @1", "way 0 1", "show"), ["0 -1", "0 0"])


class Executing(unittest.TestCase):
    def test_by_name(self):
        self.assertEqual(executed(TEXT).execute(command="show"), "0 0 0")

    def test_execute_all_left_early(self):
        commands = ("tick 1 0", "tick 1 0", "bad", "tick 1 2")
        for many, state in enumerate(((0, 0, 0), (1, 0, 0), (2, 0, 0), (2, 0, 0), (2, 0, 1))):
            session = executed(TEXT)
            found = list(itertools.islice(session.execute_all(*commands), many))
            self.assertEqual(found, ["0 0 0", "0 0 0", "bad command", "0 0 0"][:many])
            self.assertEqual(session.meter.phases, state)

    def test_each_command_is_executed_when_its_answer_is_requested(self):
        session = executed(TEXT)
        running = session.execute_all("show", "show", "net 7", "show")
        self.assertEqual(next(running), "0 0 0")
        session.execute("phases 3 5 4")
        self.assertEqual(next(running), "3 5 4")
        self.assertEqual(next(running), "done")
        session.execute("phases 6")
        self.assertEqual(next(running), "6")
        self.assertIsNone(next(running, None))
        self.assertEqual(list(session.execute_all()), [])

    def test_two_at_once(self):
        session = executed(TEXT)
        one, other = session.execute_all("tick 1 0", "show"), session.execute_all("tick 1 2", "show")
        found = [next(one), next(other), next(other), next(one)]
        self.assertEqual(found, ["0 0 0", "0 0 0", "1 0 1", "1 0 1"])

    def test_two_sessions_do_not_share_anything(self):
        one, other = Session(NET), Session(NET)
        one.execute("tick 5 0")
        self.assertEqual(face(other.meter), (NET, (0, 0, 0), (0, 0, 0), (), 0, (), 0))


class Attempts(unittest.TestCase):
    def test_all_succeed(self):
        session, other = executed(TEXT), executed(TEXT)
        commands = ("tick 9 0", "output 1", "tick 9 0 2", "marks", "undo", "way 0 0 0", "net 7 @0", "tick 8 0", "show")
        wanted = tuple(other.execute_all(*commands))
        self.assertEqual(session.attempt(*commands), wanted)
        self.assertEqual(face(session.meter), face(other.meter))
        self.assertEqual(session.attempt(), ())
        # These are answers of commands that do not fail.
        self.assertEqual(executed(TEXT).attempt("forecast 2 1", "way 0 1 0", "marks"), ("never", "no way", "none"))

    def test_the_first_a_middle_and_the_last_one_fails(self):
        right = ["tick 9 0", "output 1", "tick 8 2 0", "phases 1 2 3", "undo", "net 7 @0", "tick 8 0"]
        wrong = {"bad": "bad command", "phases 9": "bad phases", "undo": "nothing to undo",
                 "forecast 0 0": "bad number"}
        for first in ((), ("phases 3 5 4", "tick 2 0", "output 2", "tick 3 2")):
            for place in range(len(right) + 1):
                session = executed(TEXT, *first)
                before = face(session.meter)
                commands = [*right[:place], "bad", *right[place:], None, "undo", "undo"]
                self.assertEqual(session.attempt(*commands), "bad command")
                self.assertEqual(face(session.meter), before)
            for command, answer in wrong.items():
                session = executed(TEXT, *first)
                before = face(session.meter)
                self.assertEqual(session.attempt(*right[:-1], command, "bad"), answer)
                self.assertEqual(face(session.meter), before)

    def test_undo_afterwards(self):
        session = executed(TEXT, "tick 9 0", "output 1", "tick 8 2 0")
        self.assertEqual(session.attempt("undo", "undo", "undo"), "nothing to undo")
        self.assertEqual(list(session.execute_all("marks", "undo", "undo", "undo", "show")),
                         ["1", "done", "done", "nothing to undo", "0 0 0"])

    def test_a_running_execute_all_goes_on(self):
        session = executed(TEXT)
        running = session.execute_all("tick 1 0", "show")
        self.assertEqual(next(running), "0 0 0")
        self.assertEqual(session.attempt("tick 1 0", "bad"), "bad command")
        self.assertEqual(next(running), "1 0 0")


class Meters(unittest.TestCase):
    """The property `meter`."""

    def test_the_state_of_the_session(self):
        session = executed(TEXT, "phases 3 5 4", "tick 1 0", "output 1", "tick 9 0 2")
        meter = session.meter
        self.assertIs(type(meter), LoggedMeter)
        self.assertEqual((meter.net, meter.phases, meter.output), (NET, (1, 2, 3), 1))
        self.assertEqual((meter.history, meter.marks), ((((0,), 1), ((0, 2), 9)), (1,)))
        self.assertEqual((meter.carried, meter.total), ((3, 2, 2), 2))

    def test_it_is_independent(self):
        session = executed(TEXT, "phases 3 5 4", "tick 1 0", "output 1", "tick 9 0 2")
        before = face(session.meter)
        meter = session.meter
        meter.tick(0, 2, times=7)
        meter.undo(count=3)
        meter.output = 0
        meter.phases = (0, 0, 0)
        list(meter.play(((0, 1), (2, -1))))
        self.assertEqual(face(session.meter), before)
        self.assertEqual(list(session.execute_all("undo", "undo", "undo")), ["done", "done", "nothing to undo"])

    def test_the_session_does_not_change_it(self):
        session = executed(TEXT, "tick 9 0 2")
        meter = session.meter
        before = face(meter)
        session.execute("tick 7 0")
        session.execute("undo")
        session.execute("undo")
        session.execute("output 2")
        session.execute("phases 1 1 1")
        self.assertEqual(face(meter), before)
        self.assertEqual(told(setattr, session, "meter", meter)[0], "AttributeError")

    def test_two_of_them(self):
        session = executed(TEXT, "tick 9 0 2")
        one, other = session.meter, session.meter
        one.tick(0)
        self.assertEqual((one.marks, other.marks), ((2, 0), (2,)))


class Drawn(unittest.TestCase):
    def test_a_text_of_the_session_makes_the_same_one(self):
        draw = Draw(41)
        for net in small_nets(41, 20):
            session = Session(net)
            state = draw.state(net)
            self.assertEqual(session.execute("phases " + " ".join(map(str, state))), "done")
            other = Session.from_text(session.execute("save"))
            self.assertEqual(other.execute("phases " + session.execute("show")), "done")
            self.assertEqual(face(other.meter), face(session.meter))


if __name__ == "__main__":
    unittest.main()
