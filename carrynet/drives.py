"""Drives: a vector of ticks that is made again and again, and whether two of them carry alike."""

from math import lcm

from carrynet.errors import InvalidDrive, InvalidTimes, TooLarge
from carrynet.lattice import order_of
from carrynet.nets import is_between, is_counter, is_net, is_tuple_of, phases_fault
from carrynet.rates import validate_output
from carrynet.ticks import effect, ticks_fault

MOST_TURNS = 20000


def drive_fault(value):
    """The part of the value that is not as in a drive, or None."""
    if not is_tuple_of(value, 4):
        return "form"
    net, phases, vector, output = value
    if not is_net(net):
        return "net"
    if phases_fault(net, phases) is not None:
        return "phases"
    if ticks_fault(net, vector) is not None:
        return "vector"
    if not is_counter(output, len(net[0])):
        return "output"
    return None


def validate_drive(value):
    fault = drive_fault(value)
    if fault is not None:
        raise InvalidDrive(fault)


def is_drive(value):
    return drive_fault(value) is None


def record(drive):
    """The carries of the output in each turn, without end."""
    validate_drive(drive)
    net, state, vector, output = drive
    while True:
        carried, state = effect(net, state, vector)
        yield carried[output]


class Tape:
    """The record of a drive, as far as it has been asked for."""

    def __init__(self, drive):
        net, phases, vector, _ = drive
        self._drive = drive
        self._state = phases
        self._known = []
        self.period = order_of(net, vector)

    def carries_in(self, turn):
        """The carries of the output in a turn; the first one has the number 0."""
        place = turn % self.period
        net, _, vector, output = self._drive
        while len(self._known) <= place:
            carried, self._state = effect(net, self._state, vector)
            self._known.append(carried[output])
        return self._known[place]


def record_start(drive, count):
    """The first items of the record."""
    validate_drive(drive)
    if not is_between(count, 0, MOST_TURNS):
        raise InvalidTimes(count)
    tape = Tape(drive)
    return tuple([tape.carries_in(turn) for turn in range(count)])


def joint_period(*drives):
    """The number of turns after which all of the drives are in their first states again."""
    for drive in drives:
        validate_drive(drive)
    period = 1
    for net, _, vector, _ in drives:
        period = lcm(period, order_of(net, vector))
    return period


def check_periods(one, other):
    """Refuse two tapes with so long a joint period that equal first items do not tell whether they are alike."""
    if lcm(one.period, other.period) > MOST_TURNS:
        raise TooLarge(MOST_TURNS)


def difference_of(one, other):
    """The number, from 1, of the first item in which two tapes differ, or None."""
    for turn in range(min(lcm(one.period, other.period), MOST_TURNS)):
        if one.carries_in(turn) != other.carries_in(turn):
            return turn + 1
    check_periods(one, other)
    return None


def first_difference(one, other):
    """The number, from 1, of the first item in which the records of two drives differ, or None."""
    validate_drive(one)
    validate_drive(other)
    return difference_of(Tape(one), Tape(other))


def alike_to(tapes, groups, index):
    """The group of the tapes that are alike to this one, or None."""
    for group in groups:
        if difference_of(tapes[group[0]], tapes[index]) is None:
            return group
    return None


def alike_groups(*drives):
    """The groups of the indexes of drives that are alike, each one in ascending order."""
    for drive in drives:
        validate_drive(drive)
    tapes = [Tape(drive) for drive in drives]
    groups = []
    for index in range(len(tapes)):
        group = alike_to(tapes, groups, index)
        if group is None:
            groups.append([index])
        else:
            # Any two of the drives must be comparable, not only each one with the first of its group.
            for known in group:
                check_periods(tapes[known], tapes[index])
            group.append(index)
    return tuple([tuple(group) for group in groups])


def relevant(net, output):
    """The counters the carries of which can change those of the output, itself included, in ascending order."""
    validate_output(net, output)
    kept = [output]
    # The wires ascend, so from behind all wires of a counter come before those that lead to it.
    for origin, target, _ in reversed(net[1]):
        if target in kept and origin not in kept:
            kept.append(origin)
    return tuple(sorted(kept))


def trimmed(net, output):
    """The net with the relevant counters only, renumbered in their order, and these counters."""
    kept = relevant(net, output)
    moduli, wires, inputs = net
    numbers = {counter: place for place, counter in enumerate(kept)}
    shorter = (
        tuple([moduli[counter] for counter in kept]),
        tuple([(numbers[origin], numbers[target], weight) for origin, target, weight in wires if target in numbers]),
        tuple([numbers[counter] for counter in inputs if counter in numbers]),
    )
    return (shorter, kept)
