"""Nets and states: their checks, and the functions that build nets.

A fault tells the first violation, or it is None: that of a net is (part, index), all others are (index,).
"""

from carrynet.errors import InvalidCounter, InvalidNet, InvalidPhases, NotAnInput, TooLarge

MOST_COUNTERS = 10
MOST_MODULUS = 1000
MOST_WEIGHT = 100
MOST_TICKS = 10 ** 40


def is_integer(value):
    return isinstance(value, int) and not isinstance(value, bool)


def is_between(value, least, greatest):
    """Whether the value is an integer within these bounds."""
    return is_integer(value) and least <= value <= greatest


def is_tuple_of(value, many):
    """Whether the value is a tuple with so many items."""
    return isinstance(value, tuple) and len(value) == many


def is_counter(value, many):
    """Whether the value is one of so many counters."""
    return is_between(value, 0, many - 1)


def is_wire(value, many):
    """Whether the value is a wire between two of so many counters."""
    if not is_tuple_of(value, 3):
        return False
    origin, target, weight = value
    if not is_counter(origin, many) or not is_counter(target, many):
        return False
    return origin < target and is_between(weight, -MOST_WEIGHT, MOST_WEIGHT) and weight != 0


def moduli_fault(moduli):
    if not isinstance(moduli, tuple) or not 1 <= len(moduli) <= MOST_COUNTERS:
        return ("moduli", None)
    for index, modulus in enumerate(moduli):
        if not is_between(modulus, 2, MOST_MODULUS):
            return ("moduli", index)
    return None


def wires_fault(wires, many):
    if not isinstance(wires, tuple):
        return ("wires", None)
    before = (-1, -1)
    for index, wire in enumerate(wires):
        if not is_wire(wire, many) or wire[:2] <= before:
            return ("wires", index)
        before = wire[:2]
    return None


def inputs_fault(inputs, many):
    if not isinstance(inputs, tuple):
        return ("inputs", None)
    before = -1
    for index, counter in enumerate(inputs):
        if not is_counter(counter, many) or counter <= before:
            return ("inputs", index)
        before = counter
    return None


def net_fault(value):
    if not is_tuple_of(value, 3):
        return ("form", None)
    moduli, wires, inputs = value
    # Without right moduli there is no number of counters to check the rest by.
    fault = moduli_fault(moduli)
    if fault is not None:
        return fault
    many = len(moduli)
    return wires_fault(wires, many) or inputs_fault(inputs, many)


def validate_net(net):
    fault = net_fault(net)
    if fault is not None:
        part, index = fault
        raise InvalidNet(part, index)


def is_net(value):
    return net_fault(value) is None


def is_tuple_of_ints(value):
    return isinstance(value, tuple) and all([isinstance(item, int) for item in value])


def in_order(items):
    """The items in ascending order, or as they are if Python cannot sort them.

    Then they are no wires and no inputs either, and the check of the net says so.
    """
    if is_tuple_of_ints(items):
        return tuple(sorted(items))
    if isinstance(items, tuple) and all([is_tuple_of_ints(item) for item in items]):
        return tuple(sorted(items))
    return items


def make_net(*moduli, wires=(), inputs=None):
    """The net with these moduli, wires and inputs; None stands for all counters."""
    if inputs is None:
        inputs = tuple(range(len(moduli)))
    net = (moduli, in_order(wires), in_order(inputs))
    validate_net(net)
    return net


def chain(*moduli, weight=1):
    """The net in which each counter ticks the next one, and only the first is an input."""
    wires = tuple([(counter, counter + 1, weight) for counter in range(len(moduli) - 1)])
    return make_net(*moduli, wires=wires, inputs=(0,))


def opened(net):
    """The same net, but all counters are inputs."""
    validate_net(net)
    moduli, wires, _ = net
    return (moduli, wires, tuple(range(len(moduli))))


def joined(*nets):
    """One net with the counters of all nets, one net after the other."""
    for net in nets:
        validate_net(net)
    moduli = []
    wires = []
    inputs = []
    for net in nets:
        shift = len(moduli)
        moduli.extend(net[0])
        wires.extend([(origin + shift, target + shift, weight) for origin, target, weight in net[1]])
        inputs.extend([counter + shift for counter in net[2]])
    if len(moduli) > MOST_COUNTERS:
        raise TooLarge(MOST_COUNTERS)
    return (tuple(moduli), tuple(wires), tuple(inputs))


def state_count(net):
    validate_net(net)
    count = 1
    for modulus in net[0]:
        count = count * modulus
    return count


def phases_fault(net, value):
    """The fault of a value that should be a state; the net is one."""
    moduli = net[0]
    if not is_tuple_of(value, len(moduli)):
        return (None,)
    for index, phase in enumerate(value):
        if not is_between(phase, 0, moduli[index] - 1):
            return (index,)
    return None


def check_phases(net, value):
    """Refuse what is not a state of the net."""
    fault = phases_fault(net, value)
    if fault is not None:
        raise InvalidPhases(fault[0])


def validate_phases(net, phases):
    validate_net(net)
    check_phases(net, phases)


def is_state(net, value):
    validate_net(net)
    return phases_fault(net, value) is None


def check_counter(net, value):
    """Refuse what is not a counter of the net."""
    if not is_counter(value, len(net[0])):
        raise InvalidCounter(value)


def check_input(net, counter):
    """Refuse a counter that is not an input of the net."""
    if counter not in net[2]:
        raise NotAnInput(counter)
