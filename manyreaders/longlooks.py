"""A look at how long one waits, without any search."""

from manyreaders.booklooks import shows_book
from manyreaders.books import moves
from manyreaders.kinds import is_tuple_of, is_whole, is_word
from manyreaders.longest import cost_of
from manyreaders.rooms import waits_in
from manyreaders.starving import shows_ring


def shows_longest(rule, n, deeds, guest, thing):
    """Whether the thing, of any kind, shows how long the guest waits by the deeds, or a row of them that starves it."""
    if not is_tuple_of(thing, 4):
        return False
    if is_word(thing[0], ("within",)):
        return shows_within(rule, n, deeds, guest, thing)
    return shows_ring(rule, n, thing) and thing[1] == guest and all([deed in deeds for deed in thing[2] + thing[3]])


def shows_within(rule, n, deeds, guest, thing):
    """Whether the thing, of four parts, holds a book and ranks that no row of deeds goes beyond."""
    word, most, rooms, ranks = thing
    if not is_ranking(ranks) or not is_whole(most) or not all([rank <= most for rank in ranks]):
        return False
    if not shows_book(rule, n, deeds, rooms) or len(ranks) != len(rooms):
        return False
    rank_of = {room: rank for room, rank in zip(rooms, ranks)}
    return all([bears_costs(rule, deeds, guest, rank_of, room) for room in rooms if waits_in(room, guest)])


def is_ranking(thing):
    return isinstance(thing, tuple) and all([is_whole(rank) and rank >= 0 for rank in thing])


def bears_costs(rule, deeds, guest, rank_of, room):
    """Whether the room's rank is enough for each deed there, and for what may come behind it."""
    for deed, behind, events in moves(rule, room, deeds):
        further = rank_of[behind] if waits_in(behind, guest) else 0
        if rank_of[room] < cost_of(events, guest) + further:
            return False
    return True
