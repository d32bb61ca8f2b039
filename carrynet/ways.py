"""Cheapest ways: the ticks with the least cost from one state to another one, and how far states are apart."""

from heapq import heappop, heappush

from carrynet.errors import InvalidPrices
from carrynet.events import check_reached
from carrynet.nets import is_between, validate_net, validate_phases
from carrynet.reaching import validate_states
from carrynet.ticks import effect, total_of_steps

MOST_PRICE = 1000000


def check_prices(net, prices):
    """Refuse what is neither no prices at all nor a price for each input."""
    if len(prices) not in (0, len(net[2])):
        raise InvalidPrices(None)
    for index, price in enumerate(prices):
        if not is_between(price, 1, MOST_PRICE):
            raise InvalidPrices(index)


def equal_prices(net):
    return (1,) * len(net[2])


def steps_of(net, prices):
    """The prices and the vectors of all steps, forwards and backwards."""
    return [(price, total_of_steps(net, ((counter, sign),)))
            for price, counter in zip(prices, net[2]) for sign in (1, -1)]


def search(net, start, goal, prices):
    """The cheapest way, for arguments that have been checked and a price for each input.

    The cheapest ways are found in the order of their costs, those with the same cost in the order of tuples. So the
    first one that is found for a state is right: without its last unit, it is the cheapest way to another state.
    """
    steps = steps_of(net, prices)
    queue = [(0, (0,) * len(start), start)]
    settled = set()
    while queue:
        cost, vector, state = heappop(queue)
        if state == goal:
            return vector
        if state in settled:
            continue
        settled.add(state)
        for price, step in steps:
            following = effect(net, state, step)[1]
            if following not in settled:
                longer = tuple([entry + unit for entry, unit in zip(vector, step)])
                heappush(queue, (cost + price, longer, following))
    return None


def cheapest_way(net, start, goal, *prices):
    """The tick vector with the least cost from start to goal, the smallest one of those that tie, or None."""
    validate_states(net, start, goal)
    check_prices(net, prices)
    check_reached(net)
    return search(net, start, goal, prices or equal_prices(net))


def shells(net, phases):
    """The states at the distances 0, 1, 2, .. from the phases."""
    validate_phases(net, phases)
    check_reached(net)
    steps = steps_of(net, equal_prices(net))
    seen = {phases}
    shell = [phases]
    while shell:
        yield tuple(sorted(shell))
        following = []
        for state in shell:
            for _, step in steps:
                found = effect(net, state, step)[1]
                if found not in seen:
                    seen.add(found)
                    following.append(found)
        shell = following


def radius(net):
    """The greatest distance of two states that reach each other."""
    validate_net(net)
    zeros = (0,) * len(net[0])
    found = list(shells(net, zeros))
    return len(found) - 1
