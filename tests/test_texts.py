"""Texts of integers, fractions and nets: 12.1 to 12.3."""

import math
import re
import unittest

from carrynet.nets import is_net
from carrynet.texts import fraction_text, net_text, numbers_text, parse_fraction, parse_net, parse_numbers
from tests.draws import Draw, large_nets, small_nets
from tests.helpers import A, TEN, not_tuples, told
from tests.refusals import InOrder

PARSERS = (parse_numbers, parse_fraction, parse_net)
NUMERAL = r"(?:0|-?[1-9][0-9]{0,39})"
FRACTION = rf"{NUMERAL}(?:/[1-9][0-9]{{0,39}})?"
# Words that are wrong at most places, and right at a few.
WORDS = ("", "none", "0", "-0", "00", "+1", "1", "-1", "01", "-01", "2", "2.0", "1000", "1001", "x", "1_0", "1e3",
         "0x1", " ", "\n", "1\n", "\n1", "--1", "-", "+", "/", "1/", "/2", "1/2", "2/4", "-1/2", "1/-2", "1/1", "0/1",
         "0/2", "1/02", "1/2/3", "1/ 2", "@", "@0", "@1", "@-1", "@-0", "@00", "@01", "@9", "@10", "@@0", "0@", ">",
         ">:", ":", "0>1:1", "0>1:0", "0>1:-1", "0>1:-0", "0>1:+1", "0>1:01", "0>1:100", "0>1:101", "0>1:-100",
         "0>1:-101", "0>1", "0>1:", "0:1>1", "0>1:1:1", "0>1>2:1", "1>0:1", "0>0:1", "00>1:1", "0>01:1", "-0>1:1",
         "0>-1:1", ">1:1", "0>:1", "@0>1:1", "0>1:@1", "8>9:1", "9>10:1", "1>2:3", "0>2:5", "NONE", "none ", "9" * 40,
         "9" * 41, "-" + "9" * 40, "-" + "9" * 41, "1" + "0" * 40, "0" * 41, "1/" + "9" * 40, "1/" + "9" * 41,
         "10**3")


def words_of_numbers(words):
    """How many of the words are right, up to the first wrong one, for integers."""
    if words[0] == "none":
        return 1
    count = 0
    while count < len(words) and re.fullmatch(NUMERAL, words[count]):
        count += 1
    return count


def words_of_fraction(words):
    if not re.fullmatch(FRACTION, words[0]):
        return 0
    over, _, under = words[0].partition("/")
    return 0 if under == "1" or math.gcd(int(over), int(under or 1)) != 1 else 1


def net_of(words):
    """The net of the words, if each of them has the form of a right word and they are in the right order."""
    text = " ".join(words)
    wire = rf"{NUMERAL}>{NUMERAL}:{NUMERAL}"
    if not re.fullmatch(rf"{NUMERAL}(?: {NUMERAL})*(?: {wire})*(?: @{NUMERAL})*", text):
        return None
    return (tuple(int(word) for word in words if re.fullmatch(NUMERAL, word)),
            tuple(tuple(map(int, re.split("[>:]", word))) for word in words if ">" in word),
            tuple(int(word[1:]) for word in words if "@" in word))


def words_of_net(words):
    count = 0
    while count < len(words) and is_net(net_of(words[:count + 1])):
        count += 1
    return count


def drawn_integer(draw):
    return draw.number(0, 10 ** draw.number(0, 40) - 1) * draw.choice((1, -1))


def drawn_fraction(draw):
    over, under = drawn_integer(draw), abs(drawn_integer(draw)) + 1
    under = under if len(str(under)) <= 40 else 7
    common = math.gcd(over, under)
    return (over // common, under // common)


def some_nets(seed):
    return small_nets(seed, 60, counters=4) + large_nets(seed, 10) + [A, TEN]


class Texts(unittest.TestCase):
    """12.1, 12.2."""

    def test_integers(self):
        for number, text in ((0, "0"), (7, "7"), (-7, "-7"), (10, "10"), (-100, "-100"), (10 ** 999, "1" + "0" * 999),
                             (-10 ** 40, "-1" + "0" * 40)):
            self.assertEqual(numbers_text(number), text)
            self.assertEqual(numbers_text(number, 0, number), f"{text} 0 {text}")
        self.assertEqual(numbers_text(), "none")

    def test_fractions(self):
        for fraction, text in (((0, 1), "0"), ((5, 1), "5"), ((-5, 1), "-5"), ((1, 8), "1/8"), ((-29, 24), "-29/24"),
                               ((10 ** 500, 3), "1" + "0" * 500 + "/3"), ((1, 10 ** 40), "1/1" + "0" * 40)):
            self.assertEqual(fraction_text(fraction), text)

    def test_nets(self):
        self.assertEqual(net_text(TEN), "2 2 2 2 2 2 2 2 2 2")
        self.assertEqual(net_text(((1000, 2, 30), ((0, 1, -100), (0, 2, 7), (1, 2, 100)), (0, 2))),
                         "1000 2 30 0>1:-100 0>2:7 1>2:100 @0 @2")
        for net in some_nets(1):
            words = [*map(str, net[0]), *[f"{u}>{v}:{w}" for u, v, w in net[1]], *[f"@{i}" for i in net[2]]]
            self.assertEqual(net_text(net), " ".join(words))

    def test_wrong_nets(self):
        for value in not_tuples():
            self.assertEqual(told(net_text, value), ("InvalidNet", "form", None))
        self.assertEqual(told(net_text, ((4, 1), (), ())), ("InvalidNet", "moduli", 1))
        self.assertEqual(told(net_text, ((4, 6), ((1, 0, 3),), (0,))), ("InvalidNet", "wires", 0))
        self.assertEqual(told(net_text, (*A[:2], (0, 0))), ("InvalidNet", "inputs", 1))


class ParsedBack(unittest.TestCase):
    """12.3."""

    def test_integers(self):
        draw = Draw(11)
        for _ in range(300):
            numbers = tuple(drawn_integer(draw) for _ in range(draw.number(0, 6)))
            found = parse_numbers(numbers_text(*numbers))
            self.assertEqual((found, type(found)), (numbers, tuple))

    def test_fractions(self):
        draw = Draw(12)
        for _ in range(300):
            fraction = drawn_fraction(draw)
            found = parse_fraction(fraction_text(fraction))
            self.assertEqual((found, type(found)), (fraction, tuple))

    def test_nets(self):
        for net in some_nets(13):
            self.assertEqual(parse_net(net_text(net)), net)
        # The longest net has more than 600 characters.
        wires = tuple((u, v, -100) for u in range(10) for v in range(u + 1, 10))
        net = ((1000,) * 10, wires, tuple(range(10)))
        self.assertEqual(parse_net(net_text(net)), net)


class Parsers(InOrder):
    def is_parsed(self, parser, right_words, words):
        """The words are parsed if all of them are right; otherwise the number of the first wrong one is told."""
        text = " ".join(words)
        count = right_words(text.split(" "))
        wanted = None if count == len(text.split(" ")) else ("InvalidText", count + 1)
        self.tells(parser, {"text": text}, wanted)
        return wanted is None

    def changes(self, words):
        """The words with one of them changed, removed, repeated, exchanged with the next one, or emptied."""
        for index in range(len(words)):
            for word in (*WORDS, words[index] + "0", words[index][:-1], "-" + words[index]):
                yield [*words[:index], word, *words[index + 1:]]
            yield [*words[:index], *words[index + 1:]]
            yield [*words[:index + 1], *words[index:]]
            yield [*words[:index], *words[index:index + 2][::-1], *words[index + 2:]]
        for word in WORDS:
            yield [*words, word]
            yield [word, *words]

    def test_changed_integers(self):
        draw = Draw(21)
        parsed = []
        for many in (0, 1, 2, 3, 5) * 3:
            words = numbers_text(*[drawn_integer(draw) for _ in range(many)]).split(" ")
            parsed.extend(self.is_parsed(parse_numbers, words_of_numbers, changed) for changed in self.changes(words))
        self.assertGreater(min(parsed.count(True), parsed.count(False)), 300)

    def test_changed_fractions(self):
        draw = Draw(22)
        parsed = []
        for fraction in [(0, 1), (1, 2), (-7, 1), *[drawn_fraction(draw) for _ in range(20)]]:
            words = fraction_text(fraction).split(" ")
            parsed.extend(self.is_parsed(parse_fraction, words_of_fraction, changed) for changed in self.changes(words))
        self.assertGreater(min(parsed.count(True), parsed.count(False)), 100)

    def test_changed_nets(self):
        parsed = []
        for net in [A, TEN, *small_nets(23, 15, counters=4)]:
            words = net_text(net).split(" ")
            parsed.extend(self.is_parsed(parse_net, words_of_net, changed) for changed in self.changes(words))
        self.assertGreater(min(parsed.count(True), parsed.count(False)), 300)

    def test_changed_characters(self):
        for text, parser, right_words in (("12 -5 0", parse_numbers, words_of_numbers),
                                          ("-12/35", parse_fraction, words_of_fraction),
                                          ("4 6 5 0>1:3 1>2:-12 @0 @2", parse_net, words_of_net)):
            for index in range(len(text) + 1):
                for sign in map(chr, (10, *range(32, 127))):
                    self.is_parsed(parser, right_words, (text[:index] + sign + text[index + 1:]).split(" "))
                    self.is_parsed(parser, right_words, (text[:index] + sign + text[index:]).split(" "))

    def test_forty_digits(self):
        for digits in ("1" * 40, "-" + "9" * 40, "1" + "0" * 39):
            self.assertEqual(parse_numbers(f"3 {digits}"), (3, int(digits)))
            self.assertEqual(parse_fraction(digits), (int(digits), 1))
            self.tells(parse_numbers, {"text": f"3 {digits}0"}, ("InvalidText", 2))
            self.tells(parse_fraction, {"text": digits + "0"}, ("InvalidText", 1))
        self.assertEqual(parse_fraction("1/" + "7" * 40), (1, int("7" * 40)))
        self.assertEqual(parse_fraction("-" + "1" * 40 + "/" + "1" + "0" * 39), (-int("1" * 40), 10 ** 39))
        self.tells(parse_fraction, {"text": "1/" + "7" * 41}, ("InvalidText", 1))
        self.tells(parse_net, {"text": "4 " + "7" * 40}, ("InvalidText", 2))

    def test_none(self):
        self.assertEqual(parse_numbers("none"), ())
        for text, word in (("none none", 2), ("none 1", 2), ("1 none", 2), ("1 2 none 3", 3), ("none ", 2),
                           (" none", 1), ("nonee", 1), ("None", 1), ("none\n", 1)):
            self.tells(parse_numbers, {"text": text}, ("InvalidText", word))
        for parser in (parse_fraction, parse_net):
            self.tells(parser, {"text": "none"}, ("InvalidText", 1))
            self.tells(parser, {"text": "5 none"}, ("InvalidText", 2))

    def test_spaces_and_newlines(self):
        for parser in PARSERS:
            for text, word in (("", 1), (" ", 1), ("  ", 1), (" 5", 1), ("5 ", 2), ("5  ", 2), ("\n", 1), ("5\n", 1),
                               ("5 \n", 2), ("\n5", 1), (" " * 1000, 1), ("x" * 1000, 1), ("5" * 1000, 1)):
                self.tells(parser, {"text": text}, ("InvalidText", word))
        self.tells(parse_numbers, {"text": "5  5"}, ("InvalidText", 2))
        self.tells(parse_numbers, {"text": "5\n5"}, ("InvalidText", 1))
        self.tells(parse_net, {"text": "5 6  @0"}, ("InvalidText", 3))
        self.tells(parse_net, {"text": "5 6 @0 "}, ("InvalidText", 4))
        self.tells(parse_net, {"text": "5 6 @0\n"}, ("InvalidText", 3))

    def test_other_digits(self):
        for sign in ("\u0663", "\u00b2", "\uff15"):
            for parser in PARSERS:
                self.tells(parser, {"text": sign}, ("InvalidText", 1))

    def test_what_is_no_string(self):
        for value in [*not_tuples(), (), ("5",), ["5"], b"5", A]:
            if not isinstance(value, str):
                for parser in PARSERS:
                    self.tells(parser, {"text": value}, ("InvalidText", 0))

    def test_long_texts(self):
        self.assertEqual(parse_numbers("7 " * 499 + "77"), (7,) * 499 + (77,))
        self.tells(parse_numbers, {"text": "7 " * 500}, ("InvalidText", 501))
        self.tells(parse_net, {"text": "7 " * 499 + "77"}, ("InvalidText", 11))

    def test_places_in_nets(self):
        for text, word in (("4 1", 2), ("1 4", 1), ("1001", 1), ("@0", 1), ("0>1:3 4 6", 1), ("4 6 @0 0>1:3", 4),
                           ("4 6 0>1:3 5", 4), ("4 6 @0 5", 4), ("4 6 @0 @0", 4), ("4 6 @1 @0", 4), ("4 6 @2", 3),
                           ("4 6 0>2:3", 3), ("4 6 0>1:3 0>1:4", 4), ("4 6 5 0>2:3 0>1:4", 5), ("4 6 1>0:3", 3),
                           ("4 6 5 1>2:1 0>1:1", 5), ("2 " * 10 + "2", 11), ("2 " * 10 + "9>10:1", 11)):
            self.tells(parse_net, {"text": text}, ("InvalidText", word))
        self.assertEqual(parse_net("2"), ((2,), (), ()))
        self.assertEqual(parse_net("4 6 5 0>1:4 0>2:3"), ((4, 6, 5), ((0, 1, 4), (0, 2, 3)), ()))


if __name__ == "__main__":
    unittest.main()
