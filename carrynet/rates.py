"""Rates: how many carries of one counter, the output, a tick at each counter is worth.

The gains are computed as integers, the shares: each gain multiplied by the number of states. Only the answers are
fractions in lowest terms.
"""

from math import gcd

from carrynet.lattice import validate_vector
from carrynet.nets import check_counter, state_count, validate_net, validate_phases
from carrynet.reaching import product_sum


def in_lowest_terms(numerator, denominator):
    """The fraction of two integers, the second of which is at least 1."""
    divisor = gcd(numerator, denominator)
    return (numerator // divisor, denominator // divisor)


def shares(net, output):
    """The shares of all counters; the net and the output are right."""
    moduli, wires, _ = net
    sums = [0] * len(moduli)
    sums[output] = state_count(net)
    # The wires ascend, so from behind all wires of a counter come before those that lead to it. The number of states
    # contains each modulus once, and each path passes a counter once: no division leaves a rest.
    for origin, target, weight in reversed(wires):
        sums[origin] += weight * (sums[target] // moduli[target])
    return [total // modulus for total, modulus in zip(sums, moduli)]


def spread_of(net, worths):
    """The spread, multiplied by the number of states, from the shares."""
    return sum([abs(worth) * (modulus - 1) for worth, modulus in zip(worths, net[0])])


def validate_output(net, output):
    """Refuse a wrong net, then what is not a counter of it."""
    validate_net(net)
    check_counter(net, output)


def gains(net, output):
    """The gains of all counters for the output."""
    validate_output(net, output)
    whole = state_count(net)
    return tuple([in_lowest_terms(worth, whole) for worth in shares(net, output)])


def spread(net, output):
    """How far, at most, the carries of the output are from the rate, in every state."""
    validate_output(net, output)
    return in_lowest_terms(spread_of(net, shares(net, output)), state_count(net))


def rate_of(net, vector, output):
    """The rate of a tick vector: the carries of the output that it is worth."""
    validate_vector(net, vector)
    check_counter(net, output)
    return in_lowest_terms(product_sum(shares(net, output), vector), state_count(net))


def offset_of(net, phases, output):
    """The offset of a state: what its phases are worth, before their counters carry."""
    validate_phases(net, phases)
    check_counter(net, output)
    return in_lowest_terms(product_sum(shares(net, output), phases), state_count(net))


def carry_range(net, vector, output):
    """The least and the greatest number of carries that the spread allows the output for the ticks of the vector."""
    validate_vector(net, vector)
    check_counter(net, output)
    worths = shares(net, output)
    rate = product_sum(worths, vector)
    reach = spread_of(net, worths)
    whole = state_count(net)
    # The sign is changed twice, so that the least number is rounded up.
    return (-((reach - rate) // whole), (rate + reach) // whole)
