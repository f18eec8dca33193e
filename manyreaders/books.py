"""Books: all rooms to which rows of some deeds lead."""

from manyreaders.deeds import can_do, done
from manyreaders.errors import TooMany
from manyreaders.rooms import WRITING_WORDS, empty, guests_with, readers_in

MOST_ROOMS = 2000


def book(rule, n, deeds):
    """The tuple of all rooms to which rows of the deeds lead, as they are come to; refused with TooMany."""
    return tuple(first_ways(rule, n, deeds))


def first_ways(rule, n, deeds):
    """For each room of the book, in order, the room ahead of it and the deed that first led to it."""
    start = empty(n)
    ways = {start: None}
    rooms = [start]
    at = 0
    while at < len(rooms):
        room = rooms[at]
        for deed, behind, events in moves(rule, room, deeds):
            if behind not in ways:
                ways[behind] = (room, deed)
                rooms.append(behind)
        if len(rooms) > MOST_ROOMS:
            raise TooMany("more rooms than a book holds")
        at += 1
    return ways


def moves(rule, room, deeds):
    """For each of the deeds that can be done in the room: the deed, the room behind it, its events."""
    told = []
    for deed in deeds:
        if can_do(room, deed):
            behind, events = done(rule, room, deed)
            told.append((deed, behind, events))
    return told


def way_to(rule, n, deeds, room):
    """The first row of the deeds, by size, that leads to the room, or None; refused with TooMany."""
    ways = first_ways(rule, n, deeds)
    return row_back(ways, room) if room in ways else None


def row_back(ways, room):
    """The row that first_ways took to a room of the book."""
    row = []
    while ways[room] is not None:
        room, deed = ways[room]
        row.append(deed)
    row.reverse()
    return tuple(row)


def tally(rule, n, deeds):
    """How many rooms of the book there are with so many readers, writers and waiting ones; refused with TooMany."""
    counts = {}
    for room in book(rule, n, deeds):
        key = (len(readers_in(room)), len(guests_with(room, WRITING_WORDS)), len(room[1]))
        counts[key] = counts.get(key, 0) + 1
    return counts
