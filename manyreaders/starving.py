"""Rows of deeds that starve a guest, by rules that aren't fair."""

from manyreaders.errors import NoDeed
from manyreaders.fair import told_most
from manyreaders.kinds import is_between, is_tuple_of, is_whole, is_word
from manyreaders.rooms import waits_in
from manyreaders.runs import walked


def starving(rule, n):
    """("never", reads, writes) of a fair rule, else ("starves", guest, ahead, again)."""
    reads, writes = told_most(rule, n)
    if reads is not None and writes is not None:
        return ("never", reads, writes)
    favoured, starved = ("read", "write") if writes is None else ("write", "read")
    ahead = ((favoured, 1, None), (starved, 0, None))
    # Guest 2 asks ahead of guest 1's leaving, and the other way round: so by any most one of them is within.
    again = ((favoured, 2, None), ("leave", 1), (favoured, 1, None), ("leave", 2))
    return ("starves", 0, ahead, again)


def shows_starving(rule, n, thing):
    """Whether the thing, of any kind, is one that starving could tell."""
    return shows_never(rule, n, thing) or shows_ring(rule, n, thing)


def shows_never(rule, n, thing):
    if not is_tuple_of(thing, 3):
        return False
    word, reads, writes = thing
    # Kinds first: True == 1, and None stands in told_most of a rule that isn't fair.
    return is_word(word, ("never",)) and is_whole(reads) and is_whole(writes) and (reads, writes) == told_most(rule, n)


def shows_ring(rule, n, thing):
    """Whether the thing is ("starves", guest, ahead, again) with rows that starve the guest."""
    if not is_tuple_of(thing, 4):
        return False
    word, guest, ahead, again = thing
    if not is_word(word, ("starves",)) or not is_between(guest, 0, n - 1):
        return False
    return isinstance(ahead, tuple) and isinstance(again, tuple) and starves(rule, n, guest, ahead, again)


def starves(rule, n, guest, ahead, again):
    """Whether behind ahead, and behind each deed of again, the guest waits while others are let in, round and round."""
    try:
        steps = walked(rule, n, ahead + again)
    except NoDeed:
        return False
    ring = steps[len(ahead):]
    # No deed lets nobody in.
    if not ring:
        return False
    start = ring[0][0]
    return start == ring[-1][1] and all([waits_in(behind, guest) for before, behind, events in ring]) and lets_in(ring)


def lets_in(ring):
    """Whether somebody goes in: another guest, where the one asked about waits all along."""
    return any([word == "in" for before, behind, events in ring for word, who in events])
