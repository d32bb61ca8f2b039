"""Machines: a net with a state, which can be ticked; recorders, which undo; odometers, which have a reading."""

from math import gcd

from carrynet.errors import InvalidReading, InvalidTimes, NothingToUndo
from carrynet.nets import chain, check_phases, is_between, is_integer, make_net, state_count, validate_net
from carrynet.ticks import check_walk, effect, total_of_steps, vector_of


class Machine:
    """A net with a state, and with the carries of all counters since the machine was created."""

    MOST_TIMES = 1000000000000

    def __init__(self, net, *, phases=None):
        validate_net(net)
        state = phases
        if state is None:
            state = (0,) * len(net[0])
        check_phases(net, state)
        self._net = net
        self._phases = state
        self._carried = (0,) * len(net[0])

    @classmethod
    def made(cls, *moduli, **options):
        """An object of this class, for the net that make_net returns."""
        return cls(make_net(*moduli, **options))

    @staticmethod
    def common_divisor(one, other):
        """The greatest common divisor of two integers."""
        return gcd(one, other)

    @property
    def net(self):
        return self._net

    @property
    def carried(self):
        return self._carried

    @property
    def phases(self):
        return self._phases

    @phases.setter
    def phases(self, value):
        self.begin_at(value)

    def begin_at(self, phases):
        """Go to a state; no counter carries."""
        check_phases(self._net, phases)
        self._phases = phases

    def make_ticks(self, vector):
        """Make the ticks of a vector, and return their carries."""
        carried, state = effect(self._net, self._phases, vector)
        self._phases = state
        self._carried = tuple([before + count for before, count in zip(self._carried, carried)])
        return carried

    def tick(self, *counters, times=1):
        """Tick each of the counters so many times, and return the carries of all counters."""
        return self.make_ticks(vector_of(self._net, *counters, times=times))

    def rehearse(self, *calls):
        """The states and the carries that these calls of tick would lead to, one after the other."""
        # Nothing is made, so nothing is to be taken back if one of the calls is wrong.
        state = self._phases
        results = []
        for counters, times in calls:
            carried, state = effect(self._net, state, vector_of(self._net, *counters, times=times))
            results.append((state, carried))
        return tuple(results)

    def play(self, walk):
        """Make the steps of a walk, each one when the state after it is requested."""
        check_walk(self._net, walk)
        for step in walk:
            self.make_ticks(total_of_steps(self._net, (step,)))
            yield self._phases


class Recorder(Machine):
    """A machine that keeps its calls of tick, and can undo them."""

    def __init__(self, net, *, phases=None):
        super().__init__(net, phases=phases)
        self._history = []

    @property
    def history(self):
        return tuple(self._history)

    def tick(self, *counters, times=1):
        """Tick as a machine does, and record the call."""
        carried = super().tick(*counters, times=times)
        self._history.append((counters, times))
        return carried

    def undo(self, *, count=1):
        """Make the opposite ticks of the latest calls, and forget these calls."""
        if not is_integer(count) or count < 0:
            raise InvalidTimes(count)
        if count > len(self._history):
            raise NothingToUndo("undo")
        for _ in range(count):
            counters, times = self._history.pop()
            opposite = -times
            self.make_ticks(vector_of(self._net, *counters, times=opposite))


class Odometer(Machine):
    """A machine whose counters are the digits of one number, the lowest one first."""

    def __init__(self, *moduli, reading=0):
        super().__init__(chain(*moduli))
        self.begin_reading(reading)

    @property
    def reading(self):
        number = 0
        unit = 1
        for phase, modulus in zip(self._phases, self._net[0]):
            number = number + phase * unit
            unit = unit * modulus
        return number

    @reading.setter
    def reading(self, value):
        self.begin_reading(value)

    def begin_reading(self, number):
        """Go to the state with this reading; no counter carries."""
        if not is_between(number, 0, state_count(self._net) - 1):
            raise InvalidReading(number)
        phases = []
        rest = number
        for modulus in self._net[0]:
            phases.append(rest % modulus)
            rest = rest // modulus
        self._phases = tuple(phases)

    def advance(self, times):
        """Tick the input so many times, and return the carries of the last counter."""
        carried = self.tick(0, times=times)
        return carried[-1]
