"""The comparison of drives: 11.3."""

import itertools
import math
import unittest

from carrynet.drives import alike_groups, first_difference
from tests.draws import Draw, small_nets
from tests.helpers import A, not_tuples, put, told
from tests.refusals import InOrder
from tests.test_drives import DRIVE, ONE, OTHER, order, turns

TOO_LARGE = ("TooLarge", 20000)
LONG = ((1000, 1000), ((0, 1, 1),), (0,))


def drawn_drives(seed, many):
    """Drives with short periods, some of which are alike."""
    draw = Draw(seed)
    found = []
    for net in small_nets(seed, many, counters=2, most=3):
        found.append((net, draw.state(net), draw.vector(net, 2), draw.number(0, len(net[0]) - 1)))
    return found


def listed_difference(one, other):
    """The first difference of two drives, from both records."""
    period = math.lcm(order(one), order(other))
    for number, (first, second) in enumerate(zip(turns(one, period), turns(other, period)), 1):
        if first != second:
            return number
    return None


def at_reading(reading):
    """A drive that carries for the first time after one million turns, less the reading."""
    return (LONG, (reading % 1000, reading // 1000), (1, 0), 1)


def silent(period):
    """A drive without carries, with this order."""
    return (((period, 2), (), (0,)), (0, 0), (1, 0), 1)


NEVER = (A, (0, 0), (0, 0), 1)


class FirstDifference(unittest.TestCase):
    def test_against_records(self):
        drives = drawn_drives(1, 30)
        found = {}
        for one, other in itertools.product(drives, repeat=2):
            wanted = listed_difference(one, other)
            self.assertEqual(first_difference(one, other), wanted)
            found[wanted] = found.get(wanted, 0) + 1
        # At the first item, at later ones, and nowhere.
        self.assertGreater(min(found[number] for number in (1, 2, 3, 4, None)), 5)

    def test_a_drive_and_itself(self):
        for drive in [*drawn_drives(2, 20), ONE, OTHER, DRIVE, NEVER]:
            self.assertIsNone(first_difference(drive, drive))

    def test_later_than_both_periods(self):
        one = (((4,), (), (0,)), (0,), (1,), 0)
        other = (((6,), (), (0,)), (2,), (1,), 0)
        self.assertEqual((order(one), order(other)), (4, 6))
        self.assertEqual(first_difference(one, other), 8)
        self.assertEqual(first_difference(other, one), 8)

    def test_long_periods(self):
        self.assertEqual(first_difference(at_reading(0), at_reading(999999)), 1)
        self.assertEqual(first_difference(at_reading(0), at_reading(999990)), 10)
        self.assertEqual(first_difference(at_reading(0), at_reading(980000)), 20000)
        self.assertEqual(told(first_difference, at_reading(0), at_reading(979999)), TOO_LARGE)
        self.assertEqual(told(first_difference, at_reading(0), at_reading(0)), TOO_LARGE)

    def test_different_rates_with_equal_first_items(self):
        self.assertEqual(told(first_difference, NEVER, at_reading(0)), TOO_LARGE)
        self.assertEqual(first_difference(NEVER, (((100, 100), ((0, 1, 1),), (0,)), (0, 0), (1, 0), 1)), 10000)

    def test_joint_periods_up_to_twenty_thousand(self):
        drive = (((1000, 20), ((0, 1, 1),), (0,)), (0, 0), (1, 0), 1)
        self.assertEqual(order(drive), 20000)
        self.assertIsNone(first_difference(drive, drive))
        self.assertEqual(first_difference(drive, NEVER), 20000)
        self.assertEqual(first_difference(drive, put(drive, 1, (1, 0))), 19999)
        drive = (((59, 339), ((0, 1, 1),), (0,)), (0, 0), (1, 0), 1)
        self.assertEqual(order(drive), 20001)
        self.assertEqual(told(first_difference, drive, drive), TOO_LARGE)
        self.assertEqual(told(first_difference, drive, NEVER), TOO_LARGE)
        self.assertEqual(first_difference(NEVER, put(drive, 1, (1, 0))), 20000)

    def test_two_periods_with_a_long_joint_one(self):
        self.assertIsNone(first_difference(silent(125), silent(160)))
        self.assertIsNone(first_difference(silent(134), silent(149)))
        self.assertEqual(told(first_difference, silent(149), silent(151)), TOO_LARGE)
        self.assertIsNone(first_difference(silent(20), silent(1000)))


class Groups(unittest.TestCase):
    def test_against_records(self):
        for seed in range(11, 17):
            drives = drawn_drives(seed, 25)
            wanted = []
            for index, drive in enumerate(drives):
                for group in wanted:
                    if listed_difference(drives[group[0]], drive) is None:
                        group.append(index)
                        break
                else:
                    wanted.append([index])
            self.assertEqual(alike_groups(*drives), tuple(tuple(group) for group in wanted))
            self.assertGreater(max(map(len, wanted)), 1)

    def test_none_one_and_equal_ones(self):
        self.assertEqual(alike_groups(), ())
        self.assertEqual(alike_groups(ONE), ((0,),))
        self.assertEqual(alike_groups(ONE, ONE, ONE), ((0, 1, 2),))
        self.assertEqual(alike_groups(at_reading(0)), ((0,),))

    def test_ascending_groups(self):
        self.assertEqual(alike_groups(OTHER, ONE, NEVER, ONE, OTHER, silent(7)), ((0, 4), (1, 3), (2, 5)))

    def test_any_two_drives(self):
        self.assertEqual(alike_groups(NEVER, silent(149), silent(134)), ((0, 1, 2),))
        for drives in itertools.permutations((NEVER, silent(149), silent(151), ONE)):
            self.assertEqual(told(alike_groups, *drives), TOO_LARGE)
        for drives in itertools.permutations((NEVER, ONE, at_reading(0))):
            self.assertEqual(told(alike_groups, *drives), TOO_LARGE)

    def test_long_periods_with_different_first_items(self):
        drives = (at_reading(999999), at_reading(999990), ONE, at_reading(980000), at_reading(0))
        self.assertEqual(alike_groups(*drives), ((0,), (1,), (2,), (3,), (4,)))
        self.assertEqual(told(alike_groups, *drives, at_reading(979999)), TOO_LARGE)
        self.assertEqual(told(alike_groups, *drives, at_reading(999990)), TOO_LARGE)

    def test_many_drives(self):
        drives = [put(ONE, 1, (phase, 0)) for phase in range(4)] * 100
        self.assertEqual(sorted(itertools.chain(*alike_groups(*drives))), list(range(400)))
        wanted = [[turns(drives[group[0]], 4)] * len(group) for group in alike_groups(*drives)]
        self.assertEqual([[turns(drives[index], 4) for index in group] for group in alike_groups(*drives)], wanted)


class Refusals(InOrder):
    def test_in_order(self):
        wrong = [(None, "form"), (DRIVE[:3], "form"), (put(DRIVE, 0, None), "net"),
                 (put(DRIVE, 1, (4, 0, 0)), "phases"), (put(DRIVE, 2, (0, 1, 0)), "vector"),
                 (put(DRIVE, 3, 3), "output")]
        faults = [(name, value, ("InvalidDrive", part)) for name in ("one", "other") for value, part in wrong]
        self.refuses_in_order(first_difference, {"one": ONE, "other": OTHER}, faults)

    def test_the_first_wrong_argument(self):
        for wrong, part in ((None, "form"), (put(DRIVE, 1, None), "phases"), (put(DRIVE, 3, True), "output")):
            self.assertEqual(told(alike_groups, wrong, None), ("InvalidDrive", part))
            self.assertEqual(told(alike_groups, ONE, OTHER, wrong, None, ONE), ("InvalidDrive", part))
            # Also if two of the drives before it are too large.
            self.assertEqual(told(alike_groups, at_reading(0), at_reading(0), wrong), ("InvalidDrive", part))
        for value in not_tuples():
            self.assertEqual(told(alike_groups, ONE, value), ("InvalidDrive", "form"))
            self.assertEqual(told(first_difference, value, value), ("InvalidDrive", "form"))
            self.assertEqual(told(first_difference, ONE, value), ("InvalidDrive", "form"))


if __name__ == "__main__":
    unittest.main()
