"""A look at a book of rooms, without any search."""

from manyreaders.books import moves
from manyreaders.doors import settled
from manyreaders.rooms import empty, is_room, is_safe


def shows_book(rule, n, deeds, thing):
    """Whether the thing, of any kind, is a tuple of rooms that keep the promise and that no deed leaves."""
    if not isinstance(thing, tuple) or not all([is_room(n, room) for room in thing]):
        return False
    rooms = {room: True for room in thing}
    if len(rooms) != len(thing) or empty(n) not in rooms:
        return False
    return all([keeps_promise(rule, room) and stays_within(rule, deeds, rooms, room) for room in thing])


def keeps_promise(rule, room):
    return is_safe(rule, room) and settled(rule, room)[1] == ()


def stays_within(rule, deeds, rooms, room):
    return all([behind in rooms for deed, behind, events in moves(rule, room, deeds)])
