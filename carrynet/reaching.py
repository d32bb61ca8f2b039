"""Which states reach each other: ticks that lead there, or an invariant that forbids it, and a check of both."""

from math import gcd

from carrynet.errors import InvalidAnswer
from carrynet.lattice import basis_order, combined, full_basis, not_inputs, one_turn, reduced
from carrynet.nets import check_phases, is_between, is_tuple_of, validate_net, validate_phases
from carrynet.ticks import effect, ticks_fault

MOST_INVARIANT_MODULUS = 10 ** 40


def validate_states(net, start, goal):
    """Refuse a wrong net, then wrong states, the first one first."""
    validate_phases(net, start)
    check_phases(net, goal)


def product_sum(one, other):
    """The sum of the products of the items in the same places."""
    return sum([first * second for first, second in zip(one, other)])


def opened_way(net, start, goal):
    """The difference of two states of a net that have been checked."""
    vector = [0] * len(goal)
    for counter, modulus in enumerate(net[0]):
        # The entries so far settle the phases before this counter, and ticks from here on do not change them.
        state = effect(net, start, vector)[1]
        vector[counter] = (goal[counter] - state[counter]) % modulus
    return tuple(vector)


def difference(net, start, goal):
    """The ticks within the moduli that lead from start to goal if all counters are inputs."""
    validate_states(net, start, goal)
    return opened_way(net, start, goal)


def has_form_of_invariant(net, value):
    """Whether the value consists of a modulus and of a factor within it for each counter."""
    if not is_tuple_of(value, 2):
        return False
    factors, modulus = value
    if not is_tuple_of(factors, len(net[0])) or not is_between(modulus, 2, MOST_INVARIANT_MODULUS):
        return False
    return all([is_between(factor, 0, modulus - 1) for factor in factors])


def forbids_change(net, value):
    """Whether the value is an invariant; the net is one."""
    if not has_form_of_invariant(net, value):
        return False
    factors, modulus = value
    if any([factors[counter] != 0 for counter in net[2]]):
        return False
    turns = [one_turn(net, counter) for counter in range(len(factors))]
    return all([product_sum(factors, turn) % modulus == 0 for turn in turns])


def is_invariant(net, value):
    validate_net(net)
    return forbids_change(net, value)


def worth(invariant, phases):
    """The value of a state."""
    factors, modulus = invariant
    return product_sum(factors, phases) % modulus


def value_of(net, phases, invariant):
    """The value of a state for an invariant, which is the same for all states that it reaches."""
    validate_phases(net, phases)
    if not forbids_change(net, invariant):
        raise InvalidAnswer("invariant")
    return worth(invariant, phases)


def fractions_of(net, rows):
    """The fractions c(j) of the document for each counter j that is no input, and what they are multiplied by.

    There is one fraction for each vector that is 1 at one counter and 0 elsewhere. Together with the vectors that
    are 1 at one input, the rows are the basis of G, except for their entries at the inputs. So at the inputs, all
    pivots are 1 and all fractions are integers.
    """
    counters = not_inputs(net)
    whole = 1
    for counter in counters:
        whole = whole * rows[counter][counter]
    fractions = {}
    for place, counter in enumerate(counters):
        row = [0] * len(net[0])
        row[counter] = whole
        for before in counters[:place]:
            row = combined(1, row, -rows[before][counter], fractions[before])
        # The divisors are the pivots so far, and their product is a part of the whole: nothing is lost here.
        fractions[counter] = [entry // rows[counter][counter] for entry in row]
    return (fractions, whole)


def standard_invariants(net, rows):
    """The standard invariants, from the full basis of the net."""
    fractions, whole = fractions_of(net, rows)
    found = []
    for counter in not_inputs(net):
        divisor = whole
        for entry in fractions[counter]:
            divisor = gcd(divisor, entry)
        modulus = whole // divisor
        if modulus >= 2:
            found.append((tuple([entry // divisor % modulus for entry in fractions[counter]]), modulus))
    return tuple(found)


def invariants(net):
    """The standard invariants, in ascending order of their counters."""
    validate_net(net)
    return standard_invariants(net, full_basis(net))


def way(net, start, goal):
    """Ticks that lead from start to goal, or the first standard invariant that differs."""
    validate_states(net, start, goal)
    rows = full_basis(net)
    for invariant in standard_invariants(net, rows):
        if worth(invariant, start) != worth(invariant, goal):
            return ("invariant", invariant)
    # Now the rows of the counters that are no inputs can take away all that the difference has there.
    return ("ticks", tuple(reduced(opened_way(net, start, goal), rows, basis_order(net))))


def leads(net, start, goal, value):
    """Whether the value is a tick vector that leads from start to goal."""
    return ticks_fault(net, value) is None and effect(net, start, value)[1] == goal


def separates(net, start, goal, value):
    """Whether the value is an invariant with different values for start and goal."""
    return forbids_change(net, value) and worth(value, start) != worth(value, goal)


def check_way(net, start, goal, answer):
    """The first item of a correct answer to the question whether start reaches goal."""
    validate_states(net, start, goal)
    if not is_tuple_of(answer, 2) or not isinstance(answer[0], str) or answer[0] not in ("ticks", "invariant"):
        raise InvalidAnswer("form")
    word, value = answer
    if word == "ticks" and not leads(net, start, goal, value):
        raise InvalidAnswer("ticks")
    if word == "invariant" and not separates(net, start, goal, value):
        raise InvalidAnswer("invariant")
    return word
