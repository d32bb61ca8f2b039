"""Forecasts: after how many ticks at one input an output carries, or a state is reached."""

from math import gcd

from carrynet.errors import InvalidTimes, NotPositive
from carrynet.lattice import divisor_and_times
from carrynet.nets import check_counter, check_input, is_between, state_count, validate_phases
from carrynet.rates import shares
from carrynet.reaching import product_sum, validate_states
from carrynet.ticks import TIMES_BOUND, all_arrivals, effect

MOST_CARRIES = 1000000


def repeated(net, counter, times):
    """The vector of so many ticks at one counter, of any size."""
    vector = [0] * len(net[0])
    vector[counter] = times
    return vector


class Course:
    """An input of a positive net that is ticked again and again, and an output that is watched meanwhile."""

    def __init__(self, net, phases, counter, output):
        self._net = net
        self._start = phases
        self._counter = counter
        self._output = output
        worths = shares(net, output)
        self._gain = worths[counter]
        self._offset = product_sum(worths, phases)
        self._whole = state_count(net)

    def is_silent(self):
        """Whether the output never carries."""
        return self._gain == 0

    def carries_after(self, times):
        """The carries of the output in so many ticks."""
        arrived = all_arrivals(self._net, self._start, repeated(self._net, self._counter, times))
        return (self._start[self._output] + arrived[self._output]) // self._net[0][self._output]

    def fewest(self, count):
        """A number of ticks that is too small or just right for so many carries.

        No state of a positive net has a negative offset, so the carries are at most the rate plus the first offset.
        """
        return -((self._offset - count * self._whole) // self._gain)

    def least_ticks(self, count, first):
        """The least number of ticks, from the first on, after which the output has carried so often.

        The output is not silent.
        """
        low = high = max(first, self.fewest(count))
        step = 1
        while self.carries_after(high) < count:
            low = high + 1
            high = high + step
            step = 2 * step
        while low < high:
            middle = (low + high) // 2
            if self.carries_after(middle) < count:
                low = middle + 1
            else:
                high = middle
        return low


def check_ticked(net, counter):
    """Refuse what is not a counter of the net, then what is not an input."""
    check_counter(net, counter)
    check_input(net, counter)


def validate_course(net, phases, counter):
    """Refuse a wrong net or state, then a net that is not positive, then a counter that is no input."""
    validate_phases(net, phases)
    for index, wire in enumerate(net[1]):
        if wire[2] < 0:
            raise NotPositive(index)
    check_ticked(net, counter)


def forecast_of(net, phases, counter, output, count):
    """The forecast, for arguments that have been checked."""
    course = Course(net, phases, counter, output)
    if course.is_silent():
        return None
    return course.least_ticks(count, 1)


def forecast(net, phases, counter, output, *, count=1):
    """The least number of ticks after which the output has carried so often; None if it never does."""
    validate_course(net, phases, counter)
    check_counter(net, output)
    if not is_between(count, 1, MOST_CARRIES):
        raise InvalidTimes(count)
    return forecast_of(net, phases, counter, output, count)


def carry_ticks(net, phases, counter, output, *, last):
    """The numbers of the ticks in which the output carries, up to the last one, each with the carries in it."""
    validate_course(net, phases, counter)
    check_counter(net, output)
    if not is_between(last, 0, TIMES_BOUND):
        raise InvalidTimes(last)
    course = Course(net, phases, counter, output)
    if course.is_silent():
        return
    before = 0
    times = course.least_ticks(1, 1)
    while times <= last:
        carried = course.carries_after(times)
        yield (times, carried - before)
        before = carried
        times = course.least_ticks(before + 1, times + 1)


def first_to_carry(net, phases, counter, *outputs):
    """The least number of ticks after which one of the outputs has carried, and the outputs that then have.

    Without outputs all counters are outputs; None if none of them ever carries.
    """
    validate_course(net, phases, counter)
    for output in outputs:
        check_counter(net, output)
    watched = sorted(set(outputs)) if outputs else list(range(len(net[0])))
    found = [(forecast_of(net, phases, counter, output, 1), output) for output in watched]
    found = [(times, output) for times, output in found if times is not None]
    if not found:
        return None
    least = min(found)[0]
    return (least, tuple([output for times, output in found if times == least]))


def repetitions(modulus, growth, wanted):
    """The least number of times that the growth must be added to have the wanted remainder; None if it never has.

    The growth and the wanted remainder are from 0 to the modulus, minus 1.
    """
    divisor, _, inverse = divisor_and_times(modulus, growth)
    if wanted % divisor != 0:
        return None
    return wanted // divisor * inverse % (modulus // divisor)


def arrival(net, start, goal, counter):
    """The least number of ticks at the input that lead from start to goal; None if no number does."""
    validate_states(net, start, goal)
    check_ticked(net, counter)
    zeros = (0,) * len(goal)
    times = 0
    period = 1
    # After these times, the phases before each place are right, and each further period of ticks restores them; so
    # each period adds the same to the phase at the place.
    for place, modulus in enumerate(net[0]):
        phase = effect(net, start, repeated(net, counter, times))[1][place]
        growth = effect(net, zeros, repeated(net, counter, period))[1][place]
        rounds = repetitions(modulus, growth, (goal[place] - phase) % modulus)
        if rounds is None:
            return None
        times = times + rounds * period
        period = period * (modulus // gcd(modulus, growth))
    return times
