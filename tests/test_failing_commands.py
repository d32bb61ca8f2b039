"""Commands that fail: 13.4, and the wrong forms of each row of 13.3."""

import unittest

from carrynet.session import Session
from tests.helpers import A, not_tuples
from tests.machine_helpers import face
from tests.test_session import executed

# Counters 1 and 3 are no inputs, and 69 * 29 states are reached.
POSITIVE = "69 6 29 5 0>1:3 0>3:1 @0 @2"
NEGATIVE = "69 6 29 5 0>1:3 0>3:-1 @0 @2"
BAD = "bad command"
# Commands with right words on the nets above, none of which fails.
RIGHT = ("net 4 6 0>1:3 @0", "tick 5 0 2 0", "tick -5", "undo", "phases 68 5 28 4", "output 3", "show", "carried",
         "marks", "save", "rate 3", "forecast 0 7")
NUMBERS = ("", "x", "+1", "01", "00", "-0", "1.0", "1/2", "--1", "- 1", "none", "1\n", "\n1", "1_0", "0x1", "@0")
TOO_LONG = ("1" + "0" * 12, "-1" + "0" * 12, "9" * 40, "9" * 41, "-" + "9" * 900)


class Failing(unittest.TestCase):
    def fails(self, text, command, answer, *before):
        """The command has this answer and changes nothing, alone and within an attempt."""
        session = executed(text, "tick 9 0", "output 1", "tick 7 0 2", *before)
        shown = face(session.meter)
        self.assertEqual(session.execute(command), answer, command)
        self.assertEqual(face(session.meter), shown)
        self.assertEqual(session.attempt("phases 1 1 1 1", "output 0", command, "output 2"), answer)
        self.assertEqual(face(session.meter), shown)
        self.assertEqual(list(session.execute_all(command, "show")), [answer, session.execute("show")])
        self.assertEqual(face(session.meter), shown)

    def all_fail(self, answer, *commands, text=POSITIVE):
        for command in commands:
            self.fails(text, command, answer)


class BadCommands(Failing):
    def test_right_ones_do_not_fail(self):
        session = executed(POSITIVE, "tick 1 0")
        self.assertEqual(len(session.attempt(*RIGHT[1:])), len(RIGHT) - 1)
        self.assertEqual(session.attempt(RIGHT[0], "show"), ("done", "0 0"))

    def test_what_is_no_string(self):
        for value in [*not_tuples(), (), ("show",), ["show"], b"show", A]:
            self.fails(POSITIVE, value, BAD)

    def test_what_does_not_begin_like_a_command(self):
        self.all_fail(BAD, "", " ", "\n", "x", "Show", "SHOW", "shows", "sho", "done", "0", "show\n", "\nshow", "none",
                      "never", "perform", "meter", "attempt show", "x" * 1000, " " * 1000)

    def test_spaces(self):
        for command in RIGHT:
            self.all_fail(BAD, " " + command, command + " ", command + "  ", command + "\n", command.upper())
            if " " in command:
                self.all_fail(BAD, command.replace(" ", "  ", 1), command.replace(" ", "\n", 1),
                              command.replace(" ", ""))

    def test_commands_without_further_words(self):
        for word in ("undo", "show", "carried", "marks", "save"):
            self.all_fail(BAD, word + " 1", word + " 0", word + " none", word + " " + word, word + " 1 2 3")

    def test_too_few_and_too_many_words(self):
        self.all_fail(BAD, "net", "tick", "phases", "output", "rate", "forecast", "forecast 0", "way",
                      "phases 0 0 0", "phases 0 0 0 0 0", "phases 0", "phases none", "output 0 0", "output 0 1 2",
                      "rate 0 0", "rate 0 none", "forecast 0 1 1", "forecast 0 1 0", "way 0 0 0", "way 0 0 0 0 0",
                      "way none")

    def test_none_is_no_state_of_a_single_counter(self):
        for command in ("phases none", "way none", "phases", "way", "phases ", "way "):
            session = Session()
            self.assertEqual(session.execute(command), BAD)
        self.assertEqual(list(Session().execute_all("phases 1", "way 0")), ["done", "-1"])

    def test_what_is_no_integer(self):
        for word in NUMBERS:
            self.all_fail(BAD, f"tick {word}", f"tick {word} 0", f"tick 1 {word}", f"tick 1 0 {word} 2",
                          f"output {word}", f"rate {word}", f"forecast {word} 1", f"forecast 0 {word}",
                          f"phases {word} 0 0 0", f"phases 0 0 0 {word}", f"way {word} 0 0 0",
                          f"way 0 0 {word} 0", f"net {word}")

    def test_more_than_twelve_digits(self):
        for word in TOO_LONG:
            self.all_fail(BAD, f"tick {word} 0", f"tick {word}", f"tick {word} 1", f"forecast 0 {word}",
                          f"forecast 1 {word}")
        session = executed(POSITIVE)
        self.assertEqual(session.attempt("tick 999999999999", "tick -999999999999"), ("0 0 0 0",) * 2)
        self.assertEqual(session.execute("forecast 0 999999999999"), "bad number")
        self.assertEqual(session.execute("forecast 0 -999999999999"), "bad number")

    def test_more_than_forty_digits_in_states(self):
        self.all_fail("bad phases", "phases 0 0 0 " + "9" * 40, "way 0 -" + "9" * 40 + " 0 0")
        self.all_fail(BAD, "phases 0 0 0 " + "9" * 41, "way 0 -" + "9" * 41 + " 0 0")

    def test_no_such_counter(self):
        for word in ("4", "-1", "10", "999", "9" * 40, "9" * 41, "-" + "9" * 40):
            self.all_fail(BAD, f"tick 1 {word}", f"tick 1 0 2 {word} 0", f"tick 1 1 {word}", f"output {word}",
                          f"rate {word}", f"forecast {word} 1", f"forecast {word} 0")

    def test_wrong_texts_of_nets(self):
        self.all_fail(BAD, "net 1", "net 1001", "net none", "net @0", "net 4 6 1>0:3 @0", "net 4 6 0>1:0",
                      "net 4 6 @0 @0", "net 4 6 @2", "net 4  6", "net 4 6 ", "net  4 6", "net 4 6 0>1:3 5",
                      "net" + " 2" * 11, "net 4\n6", "net 4 6 0>1:101", "net net 4 6", "net show")


class OtherAnswers(Failing):
    def test_bad_phases(self):
        self.all_fail("bad phases", "phases 69 0 0 0", "phases 0 6 0 0", "phases 0 0 0 -1", "phases 0 0 0 5",
                      "phases -1 -1 -1 -1", "way 69 0 0 0", "way 0 0 29 0", "way 0 0 0 -5")

    def test_not_an_input(self):
        self.all_fail("not an input", "tick 1 1", "tick 0 3", "tick 1 0 2 3 1", "forecast 1 1", "forecast 3 1000000")
        self.all_fail("not an input", "tick 1 0", "forecast 0 1", text="69 6 29 5")

    def test_bad_numbers(self):
        self.all_fail("bad number", "forecast 0 0", "forecast 0 -1", "forecast 2 1000001", "forecast 2 999999999999")
        session = executed(POSITIVE, "output 2")
        self.assertEqual(session.attempt("forecast 2 1", "forecast 2 1000000"), ("29", "29000000"))

    def test_not_positive(self):
        self.all_fail("not positive", "forecast 0 1", "forecast 2 1000000", text=NEGATIVE)

    def test_too_large(self):
        # Also if there is no way, or if nothing is to be done.
        self.all_fail("too large", "way 0 0 0 0", "way 1 1 1 1", "way 0 1 0 0")
        self.assertEqual(executed("1000 2 @0 @1").execute("way 500 1"), "-500 -1")
        self.assertEqual(executed("1000 3 @0 @1").execute("way 500 1"), "too large")

    def test_nothing_to_undo(self):
        self.fails(POSITIVE, "undo", "nothing to undo", "undo", "undo")
        self.fails(POSITIVE, "undo", "nothing to undo", "net " + POSITIVE, "phases 3 5 7 1", "output 2")
        self.assertEqual(Session().execute("undo"), "nothing to undo")


class Orders(Failing):
    """Commands to which two or more answers would apply."""

    def test_bad_command_before_bad_phases(self):
        self.all_fail(BAD, "phases 69 0 0", "phases 69 0 0 0 0", "phases 69 0 0 x", "phases -1 0 0 -0", "way 69 0 0",
                      "way 69 0 0 01", "way 0 0 0 0 0")

    def test_bad_command_before_not_an_input(self):
        self.all_fail(BAD, "tick 1 1 4", "tick 1 3 -1", "tick x 1", "tick 1000000000000 1", "tick -0 1", "forecast 1 x",
                      "forecast 1", "forecast 1 1 1", "forecast 3 1000000000000")

    def test_bad_command_before_bad_number(self):
        self.all_fail(BAD, "forecast 4 0", "forecast -1 0", "forecast x 0", "forecast 0 0 0", "forecast 0 -0")

    def test_bad_command_before_not_positive(self):
        self.all_fail(BAD, "forecast 4 1", "forecast 0", "forecast 0 x", "forecast 0 1 1", "forecast", text=NEGATIVE)

    def test_bad_command_before_too_large(self):
        self.all_fail(BAD, "way 0 0 0", "way 0 0 0 x", "way 0 0 0 0 0", "way")

    def test_bad_command_before_nothing_to_undo(self):
        self.fails(POSITIVE, "undo 1", BAD, "undo", "undo")
        self.fails(POSITIVE, "undo ", BAD, "undo", "undo")

    def test_bad_phases_before_too_large(self):
        self.all_fail("bad phases", "way 69 0 0 0", "way 0 0 0 5", "way -1 6 29 5")

    def test_not_an_input_before_bad_number_and_not_positive(self):
        for text in (POSITIVE, NEGATIVE):
            self.all_fail("not an input", "forecast 1 0", "forecast 3 1000001", "forecast 3 -1", "forecast 1 1",
                          text=text)

    def test_bad_number_before_not_positive(self):
        self.all_fail("bad number", "forecast 0 0", "forecast 2 1000001", "forecast 0 -1", text=NEGATIVE)


if __name__ == "__main__":
    unittest.main()
