"""What the tests of machines share."""

import unittest

from carrynet.machines import Odometer, Recorder
from carrynet.meters import Meter
from tests.helpers import told

MOST = 10 ** 12
# Counter 1 is no input.
NET = ((4, 6, 5), ((0, 1, 3),), (0, 2))


def face(machine):
    """All that a machine shows of itself."""
    shown = (machine.net, machine.phases, machine.carried)
    if isinstance(machine, Recorder):
        shown = (*shown, machine.history)
    if isinstance(machine, Odometer):
        shown = (*shown, machine.reading)
    if isinstance(machine, Meter):
        shown = (*shown, machine.output, machine.marks, machine.total)
    return shown


def drawn_calls(draw, net, many, most=9):
    """Calls of tick: the counters, and the times."""
    calls = []
    for _ in range(many):
        counters = tuple(draw.choice(net[2]) for _ in range(draw.number(0, 4))) if net[2] else ()
        calls.append((counters, draw.number(-most, most)))
    return calls


class Refusing(unittest.TestCase):
    def refuses(self, machine, wanted, function, *arguments, **named):
        """The call raises this error and leaves the machine as it was."""
        before = face(machine)
        self.assertEqual(told(function, *arguments, **named), wanted)
        self.assertEqual(face(machine), before)
