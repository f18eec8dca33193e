"""Rows of deeds, walked from the empty room on."""

from manyreaders.deeds import can_do, done, is_deed
from manyreaders.errors import NoDeed
from manyreaders.rooms import WANTS, WRITING_WORDS, empty

WANT_WITHIN = {"reads": "read", "writes": "write"}


def ran(rule, n, row):
    """The room behind the row, and a tuple of the events of each deed; refused with NoDeed."""
    steps = walked(rule, n, row)
    room = steps[-1][1] if steps else empty(n)
    return (room, tuple([events for before, behind, events in steps]))


def walked(rule, n, row):
    """For each deed of the row the room ahead of it, the room behind it, and its events."""
    room = empty(n)
    steps = []
    for place, deed in enumerate(row):
        if not is_deed(n, deed) or not can_do(room, deed):
            raise NoDeed(place)
        behind, events = done(rule, room, deed)
        steps.append((room, behind, events))
        room = behind
    return steps


def pages(rule, n, row):
    """A tuple of (guest, word, the page's number) for each one that goes in or steps up, in order."""
    number = 0
    met = []
    for deed, (before, behind, events) in zip(row, walked(rule, n, row)):
        if ends_writing(before, deed):
            number += 1
        for word, guest in events:
            if word == "in":
                met.append((guest, WANT_WITHIN[behind[0][guest]], number))
            elif word == "steps":
                met.append((guest, "up", number))
    return tuple(met)


def ends_writing(room, deed):
    return deed[0] in ("down", "leave") and room[0][deed[1]] in WRITING_WORDS


def waited(rule, n, row):
    """A tuple of (guest, want, others, how) for each wait to read or to write, in order."""
    events = []
    begun = []
    for deed, brought in zip(row, ran(rule, n, row)[1]):
        events.extend(brought)
        # Of its own deed's events that of the one that waits is the last.
        if deed[0] in WANTS and ("waits", deed[1]) in brought:
            begun.append((deed[1], deed[0], len(events)))
    return tuple([wait_told(guest, want, events[at:]) for guest, want, at in begun])


def wait_told(guest, want, later):
    """How a wait went on, by the events behind its beginning."""
    others = 0
    for word, who in later:
        if who == guest and word in ("in", "ends"):
            return (guest, want, others, word)
        if word == "in":
            others += 1
    return (guest, want, others, None)
