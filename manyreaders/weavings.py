"""All weavings of plans: how many there are, where they are stuck, and what they come to."""

from manyreaders.errors import TooMany
from manyreaders.plans import can_step, next_deed, step_done, with_one_more
from manyreaders.rooms import empty
from manyreaders.runs import ends_writing

MOST_STATES = 4000


def how_many(rule, plans):
    """How many whole weavings there are; refused with TooMany."""
    return sum([many for state, first, many in come_to(rule, plans) if is_whole_weaving(plans, state)])


def stuck(rule, plans):
    """The first weaving behind which a word is left and nobody can step, or None; refused with TooMany."""
    for state, first, many in come_to(rule, plans):
        if not is_whole_weaving(plans, state) and not able_guests(plans, state):
            return first
    return None


def outcomes(rule, plans):
    """The rising tuple of what whole weavings come to; refused with TooMany."""
    return tuple(sorted({state[3] for state, first, many in come_to(rule, plans) if is_whole_weaving(plans, state)}))


def come_to(rule, plans):
    """For each state that weavings come to: the state, the first weaving that does, and how many do.

    A state is (room, how many words each has done or passed over, the page's number, the numbers met by each).
    They stand by the size of their first weavings, those of one length as tuples rise.
    """
    start = start_of(plans)
    firsts = {start: ()}
    counted = {start: 1}
    states = [start]
    at = 0
    # A step takes one word, so all weavings to a state are counted ahead of the steps from it.
    while at < len(states):
        state = states[at]
        for guest in able_guests(plans, state):
            behind = state_behind(rule, plans, state, guest)
            if behind not in firsts:
                firsts[behind] = firsts[state] + (guest,)
                states.append(behind)
            counted[behind] = counted.get(behind, 0) + counted[state]
        if len(states) > MOST_STATES:
            raise TooMany("weavings come to more than is gone on with")
        at += 1
    return [(state, firsts[state], counted[state]) for state in states]


def start_of(plans):
    many = len(plans)
    return (empty(many), (0,) * many, 0, ((),) * many)


def able_guests(plans, state):
    """The guests that can step, rising."""
    room, counts, number, met = state
    return [guest for guest in range(len(plans)) if can_step(plans, room, counts, guest)]


def is_whole_weaving(plans, state):
    return state[1] == tuple([len(plan) for plan in plans])


def state_behind(rule, plans, state, guest):
    room, counts, number, met = state
    deed = next_deed(plans, counts, guest)
    # A word that is passed over ends no writing: who could leave or step down would do it.
    if ends_writing(room, deed):
        number += 1
    room, events = step_done(rule, room, deed)
    entered = [who for word, who in events if word in ("in", "steps")]
    met = tuple([numbers + (number,) * entered.count(who) for who, numbers in enumerate(met)])
    return (room, with_one_more(counts, guest), number, met)
