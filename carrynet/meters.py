"""Meters: machines that measure the carries of one counter, the output."""

from carrynet.machines import Machine, Recorder
from carrynet.nets import check_counter, make_net
from carrynet.rates import rate_of, validate_output
from carrynet.ticks import vector_of


class Meter(Machine):
    """A machine with an output, and a mark for each call of tick: the carries of the output in it."""

    def __init__(self, net, *, output, phases=None):
        # The document wants a wrong output to be told before wrong phases.
        validate_output(net, output)
        super().__init__(net, phases=phases)
        self._output = output
        self._marks = []

    @classmethod
    def made(cls, *moduli, output=0, **options):
        """An object of this class, for the net that make_net returns."""
        return cls(make_net(*moduli, **options), output=output)

    @property
    def output(self):
        return self._output

    @output.setter
    def output(self, value):
        self.measure(value)

    def measure(self, output):
        """Measure another counter from now on."""
        check_counter(self._net, output)
        self._output = output
        self._marks = []

    @property
    def total(self):
        return self._carried[self._output]

    @property
    def marks(self):
        return tuple(self._marks)

    def tick(self, *counters, times=1):
        """Tick as a machine does, and mark the carries of the output."""
        carried = super().tick(*counters, times=times)
        self._marks.append(carried[self._output])
        return carried

    def rehearse(self, *calls):
        """The states and the carries that these calls of tick would lead to; they make no marks."""
        return super().rehearse(*calls)

    def play(self, walk):
        """Make the steps of a walk, each one when the state after it is requested; they make no marks."""
        yield from super().play(walk)

    def expected(self, *counters, times=1):
        """The rate of the ticks that tick would make."""
        return rate_of(self._net, vector_of(self._net, *counters, times=times), self._output)


class LoggedMeter(Meter, Recorder):
    """A meter that keeps its calls of tick, and can undo them together with their marks."""

    def __init__(self, net, *, output, phases=None):
        super().__init__(net, output=output, phases=phases)

    def undo(self, *, count=1):
        """Undo the latest calls, and remove the marks of those that have one."""
        super().undo(count=count)
        # Calls that were made before the output was assigned have no marks, so there may be fewer marks than calls.
        self._marks = self._marks[:max(len(self._marks) - count, 0)]

    def twin(self):
        """Another logged meter with the same state, output, history, marks and carries."""
        other = LoggedMeter(self._net, output=self._output, phases=self._phases)
        other._carried = self._carried
        other._history = list(self._history)
        other._marks = list(self._marks)
        return other
