"""A look at two rules held against one another, without any search."""

from manyreaders.deeds import is_deed
from manyreaders.holding import both_moves
from manyreaders.kinds import is_tuple_of, is_word
from manyreaders.rooms import empty, is_room


def shows_held(one, other, n, deeds, thing):
    """Whether the thing, of any kind, shows that the rules do alike by the deeds, or a row of them that parts them."""
    if not is_tuple_of(thing, 2):
        return False
    word, told = thing
    if not isinstance(told, tuple):
        return False
    if is_word(word, ("alike",)):
        return shows_alike(one, other, n, deeds, told)
    return is_word(word, ("parts",)) and shows_parting(one, other, n, deeds, told)


def shows_alike(one, other, n, deeds, pairs):
    """Whether the tuple is one of pairs of rooms that no deed parts or leaves."""
    if not all([is_pair(n, pair) for pair in pairs]):
        return False
    known = {pair: True for pair in pairs}
    if len(known) != len(pairs) or (empty(n), empty(n)) not in known:
        return False
    # None, of a deed that parts them, is no pair either.
    return all([behind in known for pair in pairs for deed, behind in both_moves(one, other, pair, deeds)])


def is_pair(n, thing):
    return is_tuple_of(thing, 2) and is_room(n, thing[0]) and is_room(n, thing[1])


def shows_parting(one, other, n, deeds, row):
    """Whether the tuple is a row of these deeds that both rules do alike but for the last."""
    pair = (empty(n), empty(n))
    for at, deed in enumerate(row):
        # Its kind first: ("read", True, None) == ("read", 1, None).
        if not is_deed(n, deed) or deed not in deeds:
            return False
        brought = both_moves(one, other, pair, (deed,))
        if not brought:
            return False
        pair = brought[0][1]
        if pair is None:
            return at == len(row) - 1
    return False
