"""What happens step by step: the events and the states along a walk, and all states that a state reaches."""

from carrynet.errors import TooLarge
from carrynet.lattice import reached_count
from carrynet.nets import validate_phases
from carrynet.ticks import check_walk, effect, total_of_steps

MOST_REACHED = 2000


def validate_start(net, phases, walk):
    """Refuse a wrong net, then a wrong state, then a wrong walk."""
    validate_phases(net, phases)
    check_walk(net, walk)


def check_reached(net):
    """Refuse a net in which a state reaches too many states to list them."""
    if reached_count(net) > MOST_REACHED:
        raise TooLarge(MOST_REACHED)


def events(net, phases, walk):
    """The carries in each step that are not 0, as (number of the step, counter, carries)."""
    validate_start(net, phases, walk)
    state = phases
    for number, step in enumerate(walk):
        carried, state = effect(net, state, total_of_steps(net, (step,)))
        for counter, count in enumerate(carried):
            if count != 0:
                yield (number, counter, count)


def states_along(net, phases, walk):
    """The state after each step of the walk."""
    validate_start(net, phases, walk)
    state = phases
    for step in walk:
        state = effect(net, state, total_of_steps(net, (step,)))[1]
        yield state


def reached(net, phases):
    """Every state that the phases reach, once, beginning with themselves."""
    validate_phases(net, phases)
    check_reached(net)
    yield phases
    found = [phases]
    seen = {phases}
    place = 0
    while place < len(found):
        for counter in net[2]:
            state = effect(net, found[place], total_of_steps(net, ((counter, 1),)))[1]
            if state not in seen:
                seen.add(state)
                found.append(state)
                yield state
        place = place + 1
