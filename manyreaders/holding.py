"""Two rules held against one another, by some deeds."""

from manyreaders.books import row_back
from manyreaders.deeds import can_do, done
from manyreaders.errors import TooMany
from manyreaders.rooms import empty

MOST_PAIRS = 2000


def held(one, other, n, deeds):
    """("alike", pairs) where the rules do alike, else ("parts", row), the first such row; refused with TooMany."""
    start = (empty(n), empty(n))
    ways = {start: None}
    pairs = [start]
    at = 0
    while at < len(pairs):
        pair = pairs[at]
        for deed, behind in both_moves(one, other, pair, deeds):
            if behind is None:
                return ("parts", row_back(ways, pair) + (deed,))
            if behind not in ways:
                ways[behind] = (pair, deed)
                pairs.append(behind)
            # Asked behind each deed, as a later one may part the rules: what counts is what came ahead of that.
            if len(pairs) > MOST_PAIRS:
                raise TooMany("more pairs of rooms than are gone on with")
        at += 1
    return ("alike", tuple(pairs))


def both_moves(one, other, pair, deeds):
    """For each of the deeds that one of the rooms lets be done: the deed, and the pair behind it, None if it parts."""
    first, second = pair
    able = [deed for deed in deeds if can_do(first, deed) or can_do(second, deed)]
    return [(deed, pair_behind(one, other, pair, deed)) for deed in able]


def pair_behind(one, other, pair, deed):
    """The rooms behind a deed that both can do and that brings both the same events, else None."""
    first, second = pair
    if not can_do(first, deed) or not can_do(second, deed):
        return None
    behind, events = done(one, first, deed)
    other_behind, other_events = done(other, second, deed)
    return (behind, other_behind) if events == other_events else None
