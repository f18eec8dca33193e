"""Rules of who goes first: tuples (word, most, k, ups)."""

from manyreaders.kinds import is_between, is_tuple_of, is_word

RULE_WORDS = ("rows", "readers", "writers", "turns", "passes")
GREATEST_MOST = 5
GREATEST_K = 9


def is_rule(thing):
    """Whether the thing, of any kind, is a rule."""
    if not is_tuple_of(thing, 4):
        return False
    word, most, k, ups = thing
    if not is_word(word, RULE_WORDS):
        return False
    k_bound = GREATEST_K if word == "passes" else 0
    return is_between(most, 0, GREATEST_MOST) and is_between(k, 0, k_bound) and is_between(ups, 0, 1)
