"""What the tests share: values of wrong kinds, caught errors, ticks made one by one, and listed states."""

import itertools

A = ((4, 6), ((0, 1, 3),), (0,))
TEN = ((2,) * 10, (), ())


def nested(depth):
    value = 1
    for _ in range(depth):
        value = (value,)
    return value


# Fresh lists and dicts for each test, so that no test can spoil another one.
def not_tuples():
    return [
        None, True, False, 0, 1, 2, -1, 10 ** 999, -10 ** 999, "", "net", "abc\n", "x" * 1000, b"", b"\x00\x01\x02",
        [], [0], [1, 2], [1, 2, 3], [(4, 6), ((0, 1, 3),), (0,)], {}, {0: 1}, {0: 4, 1: 6, 2: 7}, set(), {0, 1},
        frozenset((0, 1)), range(2), range(3), object(), Ellipsis, NotImplemented, len, tuple, ValueError("x"),
        iter((1, 2, 3)), (x for x in (1, 2, 3)), 2j,
    ]


def not_integers():
    without = [value for value in not_tuples() if not isinstance(value, int) or isinstance(value, bool)]
    return without + [(), (0,), (1,), (1, 2), nested(19)]


def caught(base, function, *arguments, **named):
    """The error that the call raises, whether it is of this base or not; None if there is none."""
    try:
        function(*arguments, **named)
    except base as error:
        return error
    return None


def told(function, *arguments, **named):
    """The class of the error and its fields, or None if there is no error."""
    error = caught(Exception, function, *arguments, **named)
    if error is None:
        return None
    return (type(error).__name__, *vars(error).values())


def put(items, index, item):
    """The same tuple with another item at this index."""
    return (*items[:index], item, *items[index + 1:])


def tick_once(net, state, arrived, carried, counter, sign):
    """One tick or backward tick, as 4.1 describes it, in lists."""
    arrived[counter] += sign
    state[counter] += sign
    if state[counter] == net[0][counter]:
        state[counter] = 0
    elif state[counter] == -1:
        state[counter] = net[0][counter] - 1
    else:
        return
    carried[counter] += sign
    for origin, target, weight in net[1]:
        if origin == counter:
            for _ in range(abs(weight)):
                tick_once(net, state, arrived, carried, target, sign if weight > 0 else -sign)


def tick_by_tick(net, phases, steps):
    """Arrivals, carries and the state after single ticks at (counter, sign), made in this order."""
    state = list(phases)
    arrived = [0] * len(phases)
    carried = [0] * len(phases)
    for counter, sign in steps:
        tick_once(net, state, arrived, carried, counter, sign)
    return (tuple(arrived), tuple(carried), tuple(state))


def steps_of(vector):
    """The single ticks of a vector, counter by counter."""
    steps = []
    for counter, entry in enumerate(vector):
        steps.extend([(counter, 1 if entry > 0 else -1)] * abs(entry))
    return steps


def leap(net, state, vector):
    """The state after ticks of any size at any counters, and the carries, as 4.5 describes them."""
    moduli, wires, _ = net
    carried = []
    after = []
    for counter, modulus in enumerate(moduli):
        arrived = vector[counter] + sum(w * carried[u] for u, v, w in wires if v == counter)
        carried.append((state[counter] + arrived) // modulus)
        after.append((state[counter] + arrived) % modulus)
    return (tuple(after), tuple(carried))


def unit(net, counter, entry=1):
    return tuple(entry if index == counter else 0 for index in range(len(net[0])))


def scaled(vector, times):
    return tuple(entry * times for entry in vector)


def total(one, other):
    return tuple(first + second for first, second in zip(one, other))


def all_states(net):
    return list(itertools.product(*[range(modulus) for modulus in net[0]]))


def searched(net, state):
    """The states that a state reaches, in the order of `reached`, by single ticks."""
    found = [state]
    for known in found:
        for counter in net[2]:
            following = tick_by_tick(net, known, ((counter, 1),))[2]
            if following not in found:
                found.append(following)
    return found


def first_of(generator, *arguments, **named):
    """The first result of a generator, or None if it has none."""
    return next(iter(generator(*arguments, **named)), None)
