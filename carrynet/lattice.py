"""The vectors that restore every state: their basis, and what it tells of all tick vectors.

The restoring vectors of a net are those of the opened net that are 0 at all counters that are no inputs. Therefore
the counters are taken in another order here, those that are no inputs first: the vectors that then belong to the
inputs are the basis of the document, and those that belong to the other counters tell which states are not reached.
"""

from math import gcd

from carrynet.nets import state_count, validate_net
from carrynet.ticks import check_ticks, effect


def combined(times, vector, other_times, other):
    """The sum of two vectors, each one taken so many times."""
    return [times * entry + other_times * second for entry, second in zip(vector, other)]


def divisor_and_times(one, other):
    """The greatest common divisor, and how many times each integer must be taken to make it as a sum.

    The first integer is at least 1, the second one at least 0.
    """
    row = [one, 1, 0]
    following = [other, 0, 1]
    while following[0] != 0:
        row, following = following, combined(1, row, -(row[0] // following[0]), following)
    return row


def one_turn(net, counter):
    """The ticks that turn one counter round once, and take back what its carry does to other counters."""
    moduli, wires, _ = net
    turn = [0] * len(moduli)
    turn[counter] = moduli[counter]
    for origin, target, weight in wires:
        if origin == counter:
            turn[target] = -weight
    return turn


def not_inputs(net):
    return [counter for counter in range(len(net[0])) if counter not in net[2]]


def basis_order(net):
    """The counters in the order of this file: those that are no inputs, then the inputs."""
    return not_inputs(net) + list(net[2])


def reduced(vector, rows, counters):
    """The vector without multiples of the rows of these counters, at each of which it is then below the pivot.

    The counters are in the order of this file, so that no row changes an entry that is already reduced.
    """
    for counter in counters:
        row = rows[counter]
        vector = combined(1, vector, -(vector[counter] // row[counter]), row)
    return vector


def merged(row, vector, counter):
    """Two vectors with the same sums as these two; the second one is 0 at the counter, the first one positive."""
    divisor, times, vector_times = divisor_and_times(row[counter], vector[counter])
    first = combined(times, row, vector_times, vector)
    second = combined(row[counter] // divisor, vector, -(vector[counter] // divisor), row)
    return (first, second)


def tidy(rows, order):
    """Bring each row below the pivots of the rows behind it, which keeps the numbers small, too."""
    for place, counter in enumerate(order):
        rows[counter] = reduced(rows[counter], rows, order[place + 1:])


def full_basis(net):
    """The basis of the opened net with the counters in the order of this file: a vector for each counter.

    The vector of a counter is 0 at all counters that are earlier in this order.
    """
    order = basis_order(net)
    rows = {}
    # The turn of a counter is 0 at the counters before it, so the rows of the counters behind it are complete.
    for counter in reversed(range(len(order))):
        vector = one_turn(net, counter)
        for other in order[:order.index(counter)]:
            if other in rows:
                vector = reduced(vector, rows, [other])
                rows[other], vector = merged(rows[other], vector, other)
        rows[counter] = vector
        tidy(rows, [known for known in order if known in rows])
    return rows


def validate_vector(net, vector):
    """Refuse a wrong net, then a wrong tick vector."""
    validate_net(net)
    check_ticks(net, vector)


def moved(net, vector):
    """Where the ticks of a vector lead from the state in which all phases are 0."""
    return effect(net, (0,) * len(vector), vector)[1]


def restores(net, vector):
    """Whether the ticks of the vector lead from every state to itself; they do so from all states or from none."""
    validate_vector(net, vector)
    return moved(net, vector) == (0,) * len(vector)


def basis(net):
    """The basis of the restoring vectors: one vector for each input."""
    validate_net(net)
    rows = full_basis(net)
    return tuple([tuple(rows[counter]) for counter in net[2]])


def remainder(net, vector):
    """The least vector, from 0 to below the pivots, that leads to the same states as this one."""
    validate_vector(net, vector)
    return tuple(reduced(vector, full_basis(net), net[2]))


def are_alike(net, vector, other):
    """Whether two tick vectors have the same remainder: they have if they lead to the same state."""
    validate_vector(net, vector)
    check_ticks(net, other)
    return moved(net, vector) == moved(net, other)


def reached_count(net):
    """How many states each state reaches, itself included."""
    validate_net(net)
    rows = full_basis(net)
    count = 1
    for counter in net[2]:
        count = count * rows[counter][counter]
    return count


def class_count(net):
    """How many classes there are of states that reach each other."""
    return state_count(net) // reached_count(net)


def order_of(net, vector):
    """How often the vector must be made, at least, to restore every state."""
    validate_vector(net, vector)
    order = 1
    # When the counters before are restored, the ticks that arrive at the next one grow with each repetition alike.
    for counter, modulus in enumerate(net[0]):
        phase = moved(net, [order * entry for entry in vector])[counter]
        order = order * (modulus // gcd(modulus, phase))
    return order
