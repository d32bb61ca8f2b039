"""Ticks: tick vectors, walks, and what the ticks of a vector do to a state."""

from carrynet.errors import InvalidTicks, InvalidTimes, InvalidWalk
from carrynet.nets import MOST_TICKS, check_counter, check_input, is_between, is_integer, is_tuple_of
from carrynet.nets import validate_net, validate_phases

MOST_STEPS = 1000
TIMES_BOUND = 10 ** 12


def ticks_fault(net, value):
    """The fault of a value that should be a tick vector; the net is one."""
    moduli, _, inputs = net
    if not is_tuple_of(value, len(moduli)):
        return (None,)
    for index, entry in enumerate(value):
        if not is_between(entry, -MOST_TICKS, MOST_TICKS) or (entry != 0 and index not in inputs):
            return (index,)
    return None


def check_ticks(net, value):
    """Refuse what is not a tick vector of the net."""
    fault = ticks_fault(net, value)
    if fault is not None:
        raise InvalidTicks(fault[0])


def is_step(net, value):
    """Whether the value is a step; the net is one."""
    if not is_tuple_of(value, 2):
        return False
    counter, sign = value
    return is_integer(counter) and counter in net[2] and is_integer(sign) and sign in (-1, 1)


def walk_fault(net, value):
    """The fault of a value that should be a walk; the net is one."""
    if not isinstance(value, tuple) or len(value) > MOST_STEPS:
        return (None,)
    for index, step in enumerate(value):
        if not is_step(net, step):
            return (index,)
    return None


def check_walk(net, value):
    """Refuse what is not a walk in the net."""
    fault = walk_fault(net, value)
    if fault is not None:
        raise InvalidWalk(fault[0])


def check_times(value):
    """Refuse what is not a number of times that a counter can be ticked."""
    if not is_between(value, -TIMES_BOUND, TIMES_BOUND):
        raise InvalidTimes(value)


def all_arrivals(net, phases, ticks):
    """The arriving ticks of all counters, for ticks of any size at any counter."""
    moduli, wires, _ = net
    arrived = list(ticks)
    # The wires ascend, so when the first wire of a counter is met, all its ticks have arrived.
    for origin, target, weight in wires:
        arrived[target] += weight * ((phases[origin] + arrived[origin]) // moduli[origin])
    return tuple(arrived)


def effect(net, phases, ticks):
    """The carries of all counters and the state afterwards, for ticks of any size at any counter."""
    arrived = all_arrivals(net, phases, ticks)
    sums = [phase + count for phase, count in zip(phases, arrived)]
    carried = tuple([total // modulus for total, modulus in zip(sums, net[0])])
    state = tuple([total % modulus for total, modulus in zip(sums, net[0])])
    return (carried, state)


def validate_ticks(net, phases, ticks):
    """Refuse a wrong net, then a wrong state, then a wrong tick vector."""
    validate_phases(net, phases)
    check_ticks(net, ticks)


def arrivals(net, phases, ticks):
    validate_ticks(net, phases, ticks)
    return all_arrivals(net, phases, ticks)


def carries(net, phases, ticks):
    validate_ticks(net, phases, ticks)
    return effect(net, phases, ticks)[0]


def after(net, phases, ticks):
    validate_ticks(net, phases, ticks)
    return effect(net, phases, ticks)[1]


def vector_of(net, *counters, times=1):
    """The tick vector in which each of the counters is ticked so many times."""
    validate_net(net)
    for counter in counters:
        check_counter(net, counter)
    for counter in counters:
        check_input(net, counter)
    check_times(times)
    vector = [0] * len(net[0])
    for counter in counters:
        vector[counter] += times
    return tuple(vector)


def total_of(net, *vectors):
    """The sum of tick vectors, which may be greater than a tick vector."""
    validate_net(net)
    for vector in vectors:
        check_ticks(net, vector)
    totals = [0] * len(net[0])
    for vector in vectors:
        for index, entry in enumerate(vector):
            totals[index] += entry
    return tuple(totals)


def total_of_steps(net, steps):
    """The steps at each input, with their signs; the net and the steps are right."""
    vector = [0] * len(net[0])
    for counter, sign in steps:
        vector[counter] += sign
    return tuple(vector)


def vector_of_walk(net, walk):
    """The tick vector with the steps of the walk at each input, with their signs."""
    validate_net(net)
    check_walk(net, walk)
    return total_of_steps(net, walk)
