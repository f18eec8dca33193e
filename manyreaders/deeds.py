"""Deeds: what they are, which can be done in a room, and what each brings."""

from manyreaders.doors import settled
from manyreaders.errors import NoDeed
from manyreaders.kinds import is_between, is_tuple_of, is_word
from manyreaders.rooms import GREATEST_LEFT, WANTS, WRITING_WORDS
from manyreaders.rooms import guests_with, waiting, with_word, without_wait

GUEST_WORDS = ("up", "down", "leave", "stop")


def is_deed(n, thing):
    """Whether the thing, of any kind, is a deed of n guests."""
    if is_tuple_of(thing, 1):
        return is_word(thing[0], ("tick",))
    if is_tuple_of(thing, 2):
        return is_word(thing[0], GUEST_WORDS) and is_between(thing[1], 0, n - 1)
    if not is_tuple_of(thing, 3):
        return False
    want, guest, left = thing
    return is_word(want, WANTS) and is_between(guest, 0, n - 1) and (left is None or is_between(left, 0, GREATEST_LEFT))


def all_deeds(n):
    """All deeds of n guests without ticks, and without ends of waits."""
    asks = [(want, guest, None) for want in WANTS for guest in range(n)]
    return tuple(asks + [(word, guest) for word in GUEST_WORDS for guest in range(n)])


def may_do(n, room):
    """Those of all_deeds that can be done in the room."""
    return tuple([deed for deed in all_deeds(n) if can_do(room, deed)])


def can_do(room, deed):
    """Whether the deed, which is one, can be done in the room."""
    if deed[0] == "tick":
        return True
    word, guest = deed[:2]
    within = room[0][guest]
    if word == "up":
        return within == "reads"
    if word == "down":
        return within in WRITING_WORDS
    if word == "leave":
        return within != "out"
    if word == "stop":
        return waiting(room, guest) is not None
    return within == "out" and waiting(room, guest) is None


def stepped(rule, n, room, deed):
    """The room behind the deed, and the events of it; refused with NoDeed where it can't be done."""
    if not is_deed(n, deed) or not can_do(room, deed):
        raise NoDeed(0)
    return done(rule, room, deed)


def done(rule, room, deed):
    """What stepped tells, of a deed that can be done."""
    bring = BRINGS[deed[0]]
    return bring(rule, room, deed)


def bring_ask(rule, room, deed):
    want, guest, left = deed
    within, waits = room
    # A room knows no left 0, so one that won't wait stands there with 1 for this while.
    entry = (guest, want, 0, 1 if left == 0 else left)
    room, events = settled(rule, (within, waits + (entry,)))
    if waiting(room, guest) is None:
        return (room, events)
    if left == 0:
        return (without_wait(room, guest), events + (("no", guest),))
    return (room, events + (("waits", guest),))


def bring_up(rule, room, deed):
    guest = deed[1]
    if rule[3] == 0 or guests_with(room, ("rising",)):
        return (room, (("no", guest),))
    room, events = settled(rule, with_word(room, guest, "rising"))
    if waiting(room, guest) is None:
        return (room, events)
    return (room, events + (("waits", guest),))


def bring_down(rule, room, deed):
    guest = deed[1]
    return settled_behind(rule, with_word(turned(rule, room, guest), guest, "reads"), (("down", guest),))


def bring_leave(rule, room, deed):
    guest = deed[1]
    return settled_behind(rule, with_word(turned(rule, room, guest), guest, "out"), (("out", guest),))


def bring_stop(rule, room, deed):
    guest = deed[1]
    if waiting(room, guest) == "up":
        calmer = with_word(room, guest, "reads")
    else:
        calmer = without_wait(room, guest)
    return settled_behind(rule, calmer, (("ends", guest),))


def bring_tick(rule, room, deed):
    within, waits = room
    shorter = [(guest, want, mark, one_less(left)) for guest, want, mark, left in waits]
    ended = tuple([("ends", entry[0]) for entry in shorter if entry[3] == 0])
    kept = tuple([entry for entry in shorter if entry[3] != 0])
    return settled_behind(rule, (within, kept), ended)


def one_less(left):
    return None if left is None else left - 1


def turned(rule, room, guest):
    """The room ahead of the settling when this guest writes no more: in turns the readers' turn comes."""
    within, waits = room
    if rule[0] != "turns" or within[guest] != "writes":
        return room
    return (within, tuple([(who, want, 1 if want == "read" else mark, left) for who, want, mark, left in waits]))


def settled_behind(rule, room, first):
    """The room settled, and its events behind these first ones."""
    room, events = settled(rule, room)
    return (room, first + events)


BRINGS = {
    "read": bring_ask,
    "write": bring_ask,
    "up": bring_up,
    "down": bring_down,
    "leave": bring_leave,
    "stop": bring_stop,
    "tick": bring_tick,
}
