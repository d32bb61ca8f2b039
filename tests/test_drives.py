"""Drives and their records: 11.1 and 11.2."""

import inspect
import itertools
import math
import unittest
from fractions import Fraction

from carrynet import drives as module
from carrynet.drives import is_drive, joint_period, record, record_start, validate_drive
from carrynet.lattice import order_of
from carrynet.rates import rate_of
from tests.draws import Draw, large_nets, small_nets
from tests.helpers import (A, TEN, first_of, leap, not_integers, not_tuples, put, scaled, steps_of, tick_by_tick, told,
                           total)
from tests.refusals import InOrder

BIG = 10 ** 40
MOST = 20000
NET = ((4, 6, 5), ((0, 1, 3),), (0, 2))
DRIVE = (NET, (3, 5, 4), (2, 0, -1), 1)
ONE = (A, (0, 0), (2, 0), 1)
OTHER = (((4,), (), (0,)), (1,), (1,), 0)


def drawn_drives(seed, many, most=5):
    draw = Draw(seed)
    for net in small_nets(seed, many) + large_nets(seed, many // 4):
        yield (net, draw.state(net), draw.vector(net, draw.choice((1, most, BIG))), draw.number(0, len(net[0]) - 1))


def turns(drive, count):
    """The first items of the record, turn by turn."""
    net, state, vector, output = drive
    found = []
    for _ in range(count):
        state, carried = leap(net, state, vector)
        found.append(carried[output])
    return tuple(found)


def order(drive):
    return order_of(drive[0], drive[2])


class Parts(unittest.TestCase):
    """11.1."""

    def is_told(self, value, part):
        self.assertEqual(told(validate_drive, value), ("InvalidDrive", part))
        self.assertIs(is_drive(value), False)

    def test_right_ones(self):
        for drive in [DRIVE, ONE, OTHER, (TEN, (1,) * 10, (0,) * 10, 9), *drawn_drives(1, 100)]:
            self.assertIs(is_drive(drive), True)
            self.assertIsNone(validate_drive(drive))

    def test_form(self):
        for value in [*not_tuples(), (), (A,), DRIVE[:3], (*DRIVE, None), list(DRIVE), (DRIVE,)]:
            self.is_told(value, "form")
        self.is_told((None, None, None), "form")

    def test_each_wrong_part(self):
        wrong = {
            0: [*not_tuples(), (), (*NET[:2], (3,)), list(NET), ((4, 6, 1), (), ()), ((4, 6, 5), ((1, 0, 3),), (0,))],
            1: [*not_tuples(), (), (3, 5), (3, 5, 4, 0), [3, 5, 4], (4, 5, 4), (3, 6, 4), (3, 5, -1), (3, 5, True)],
            2: [*not_tuples(), (), (2, 0), [2, 0, -1], (2, 1, -1), (BIG + 1, 0, 0), (0, 0, -BIG - 1), (2, 0, None)],
            3: [*not_integers(), -1, 3, 10 ** 999],
        }
        for index, part in enumerate(("net", "phases", "vector", "output")):
            for value in wrong[index]:
                self.is_told(put(DRIVE, index, value), part)
                for later in range(index + 1, 4):
                    for other in wrong[later]:
                        self.is_told(put(put(DRIVE, index, value), later, other), part)

    def test_all_parts_wrong(self):
        self.is_told((None, None, None, None), "net")
        self.is_told((NET, None, None, None), "phases")
        self.is_told((NET, (0, 0, 0), None, None), "vector")
        self.is_told((NET, (0, 0, 0), (0, 0, 0), None), "output")

    def test_greatest_entries(self):
        self.assertIs(is_drive((NET, (3, 5, 4), (BIG, 0, -BIG), 2)), True)


class Records(unittest.TestCase):
    def test_turn_by_turn(self):
        for drive in drawn_drives(11, 100):
            self.assertEqual(tuple(itertools.islice(record(drive), 30)), turns(drive, 30))
            self.assertEqual(record_start(drive, 30), turns(drive, 30))

    def test_single_ticks(self):
        draw = Draw(12)
        for net in small_nets(12, 40):
            drive = (net, draw.state(net), draw.vector(net, 4), draw.number(0, len(net[0]) - 1))
            state = drive[1]
            for found in itertools.islice(record(drive), 12):
                _, carried, state = tick_by_tick(net, state, steps_of(drive[2]))
                self.assertEqual(found, carried[drive[3]])

    def test_repeated_after_the_order(self):
        # 11.2
        tried = 0
        for drive in drawn_drives(13, 100):
            period = order(drive)
            if period <= 500:
                tried += 1
                found = tuple(itertools.islice(record(drive), 3 * period))
                self.assertEqual(found, found[:period] * 3)
                self.assertEqual(found, turns(drive, 3 * period))
                self.assertEqual(record_start(drive, 3 * period), found)
                self.assertEqual(sum(found[:period]), period * Fraction(*rate_of(drive[0], drive[2], drive[3])))
        self.assertGreater(tried, 80)

    def test_no_ticks(self):
        self.assertEqual(record_start((NET, (3, 5, 4), (0, 0, 0), 1), MOST), (0,) * MOST)
        self.assertEqual(record_start((TEN, (1,) * 10, (0,) * 10, 9), 3), (0, 0, 0))

    def test_without_end(self):
        self.assertTrue(inspect.isgeneratorfunction(record))
        found = tuple(itertools.islice(record(ONE), 30000))
        self.assertEqual(found, (0, 0, 0, 1) * 7500)

    def test_two_at_once(self):
        found = list(zip(range(9), record(ONE), record(OTHER), record(ONE)))
        one, other = turns(ONE, 9), turns(OTHER, 9)
        self.assertEqual(found, list(zip(range(9), one, other, one)))

    def test_the_longest_period(self):
        net = ((1000,) * 10, tuple((k, k + 1, 1) for k in range(9)), (0,))
        drive = (net, (990, *[999] * 9), (1, *[0] * 9), 9)
        self.assertEqual(record_start(drive, MOST), (*[0] * 9, 1, *[0] * (MOST - 10)))


class Counts(InOrder):
    def test_how_many_items(self):
        for count in (0, 1, 2, 4, 5, 19999, MOST):
            self.assertEqual(record_start(ONE, count), ((0, 0, 0, 1) * 5000)[:count])
        self.assertEqual((module.MOST_TURNS, type(module.MOST_TURNS)), (MOST, int))

    def test_wrong_counts(self):
        for wrong in [*not_integers(), -1, MOST + 1, 10 ** 999, -10 ** 999]:
            self.tells(record_start, {"drive": ONE, "count": wrong}, ("InvalidTimes", wrong))

    def test_in_order(self):
        faults = [("drive", put(DRIVE, 3, 3), ("InvalidDrive", "output")), ("drive", None, ("InvalidDrive", "form"))]
        counts = [("count", wrong, ("InvalidTimes", wrong)) for wrong in (-1, MOST + 1, None, True)]
        self.refuses_in_order(record_start, {"drive": DRIVE, "count": MOST}, [*faults, *counts])

    def test_record(self):
        for value in [*not_tuples(), (), put(DRIVE, 0, None)]:
            part = "form" if value == () or not isinstance(value, tuple) else "net"
            self.tells(lambda drive: first_of(record, drive), {"drive": value}, ("InvalidDrive", part))
            self.assertEqual(told(record_start, value, None), ("InvalidDrive", part))
        self.assertEqual(next(record(drive=OTHER)), 0)


class Periods(unittest.TestCase):
    """11.3."""

    def test_least_common_multiples(self):
        drives = list(drawn_drives(31, 40))
        self.assertEqual(joint_period(), 1)
        for one, other in zip(drives, drives[7:]):
            self.assertEqual(joint_period(one), order(one))
            self.assertEqual(joint_period(one, other), math.lcm(order(one), order(other)))
        self.assertEqual(joint_period(*drives), math.lcm(*map(order, drives)))

    def test_the_order_of_the_whole_vector(self):
        # Counter 2 does not change the record of counter 1, but the period.
        self.assertEqual(joint_period((NET, (0, 0, 0), (2, 0, 1), 1)), 20)
        self.assertEqual(joint_period((NET, (0, 0, 0), (2, 0, 0), 1)), 4)
        self.assertEqual(joint_period((NET, (0, 0, 0), (0, 0, 0), 1)), 1)

    def test_all_states_are_restored_then(self):
        for drive in drawn_drives(32, 40):
            net, state, vector, _ = drive
            self.assertEqual(leap(net, state, scaled(vector, joint_period(drive)))[0], state)

    def test_the_first_wrong_argument(self):
        wrong = put(DRIVE, 2, None)
        for values, part in (((None,), "form"), ((DRIVE, wrong), "vector"), ((DRIVE, wrong, None), "vector"),
                             ((None, wrong), "form"), ((DRIVE, DRIVE, DRIVE, put(DRIVE, 3, 3)), "output")):
            self.assertEqual(told(joint_period, *values), ("InvalidDrive", part))
        for value in not_tuples():
            self.assertEqual(told(joint_period, DRIVE, value, wrong), ("InvalidDrive", "form"))


class Sums(unittest.TestCase):
    def test_a_turn_is_the_vector(self):
        # The items add up to the carries of all turns at once.
        for net, state, vector, output in drawn_drives(41, 60):
            ticks = vector
            carried = 0
            for item in itertools.islice(record((net, state, vector, output)), 10):
                carried += item
                self.assertEqual(leap(net, state, ticks)[1][output], carried)
                ticks = total(ticks, vector)


if __name__ == "__main__":
    unittest.main()
