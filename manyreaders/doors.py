"""Who goes in next by a rule, and rooms in which all who can have gone in."""

from manyreaders.rooms import guests_with, waiting, with_word

# Whose want a rule puts ahead of the other one; rows puts none ahead.
FAVOURED = {"rows": None, "readers": "read", "writers": "write", "turns": "write"}
WORD_WITHIN = {"read": "reads", "write": "writes"}


def can_go(rule, room, guest):
    """Whether the guest waits or rises, and nobody within keeps it from going in or stepping up."""
    want = waiting(room, guest)
    if want is None:
        return False
    beside = [word for at, word in enumerate(room[0]) if word != "out" and at != guest]
    if want != "read":
        return not beside
    most = rule[1]
    return all([word == "reads" for word in beside]) and (most == 0 or len(beside) < most)


def next_in(rule, room):
    """The guest in waits that goes in next by the rule, or None."""
    if rule[0] == "passes":
        return next_past(rule, room)
    guest = foremost(rule[0], room[1])
    return guest if can_go(rule, room, guest) else None


def foremost(word, waits):
    """The one guest that a rule of this word asks, all but passes; None where nobody waits."""
    turned = [entry[0] for entry in waits if word == "turns" and entry[2] == 1]
    favoured = [entry[0] for entry in waits if entry[1] == FAVOURED[word]]
    ranked = turned + favoured + [entry[0] for entry in waits]
    return ranked[0] if ranked else None


def next_past(rule, room):
    for guest, want, mark, left in room[1]:
        if can_go(rule, room, guest):
            return guest
        # One that can't go in bars all behind it when it has been passed often enough.
        if mark >= rule[2]:
            return None
    return None


def settled(rule, room):
    """The room when nobody can step up or go in any more, and the events in order."""
    events = []
    event = coming(rule, room)
    while event is not None:
        room = brought_by(rule, room, event)
        events.append(event)
        event = coming(rule, room)
    return (room, tuple(events))


def coming(rule, room):
    """The event that comes first when the room is settled, or None."""
    for guest in guests_with(room, ("rising",)):
        if can_go(rule, room, guest):
            return ("steps", guest)
    guest = next_in(rule, room)
    return None if guest is None else ("in", guest)


def brought_by(rule, room, event):
    word, guest = event
    if word == "steps":
        return with_word(room, guest, "raised")
    return let_in(rule, room, guest)


def let_in(rule, room, guest):
    within, waits = room
    place = [entry[0] for entry in waits].index(guest)
    ahead = waits[:place]
    if rule[0] == "passes":
        ahead = tuple([(who, want, mark + 1, left) for who, want, mark, left in ahead])
    return with_word((within, ahead + waits[place + 1:]), guest, WORD_WITHIN[waits[place][1]])
