"""Plans: what each guest does, one word behind the other; and weavings: the order in which they step."""

from manyreaders.deeds import can_do, done
from manyreaders.errors import NoDeed
from manyreaders.kinds import is_between, is_word
from manyreaders.rooms import MOST_GUESTS, WANTS, empty, waiting

PLAN_WORDS = ("read", "write", "up", "down", "leave")
MOST_WORDS = 6


def is_plans(thing):
    """Whether the thing, of any kind, is a tuple of one plan for each guest."""
    return isinstance(thing, tuple) and 1 <= len(thing) <= MOST_GUESTS and all([is_plan(plan) for plan in thing])


def is_plan(thing):
    return isinstance(thing, tuple) and len(thing) <= MOST_WORDS and all([is_word(word, PLAN_WORDS) for word in thing])


def woven(rule, plans, weaving):
    """The room behind the weaving, and a tuple of the events of each step; refused with NoDeed."""
    room = empty(len(plans))
    counts = (0,) * len(plans)
    brought = []
    for place, guest in enumerate(weaving):
        if not is_between(guest, 0, len(plans) - 1) or not can_step(plans, room, counts, guest):
            raise NoDeed(place)
        room, events = step_done(rule, room, next_deed(plans, counts, guest))
        counts = with_one_more(counts, guest)
        brought.append(events)
    return (room, tuple(brought))


def can_step(plans, room, counts, guest):
    """Whether the guest, so many of whose words are done, has one left and doesn't wait or rise."""
    return counts[guest] < len(plans[guest]) and waiting(room, guest) is None


def next_deed(plans, counts, guest):
    word = plans[guest][counts[guest]]
    return (word, guest, None) if word in WANTS else (word, guest)


def step_done(rule, room, deed):
    """The room behind the step, and its events: none where the word is passed over."""
    return done(rule, room, deed) if can_do(room, deed) else (room, ())


def with_one_more(counts, guest):
    return counts[:guest] + (counts[guest] + 1,) + counts[guest + 1:]
