"""Rules, rooms and rows of deeds, read from their texts."""

from manyreaders.deeds import GUEST_WORDS
from manyreaders.errors import NoText
from manyreaders.rooms import GREATEST_LEFT, MOST_GUESTS, WANTS, is_room
from manyreaders.rules import GREATEST_K, GREATEST_MOST, RULE_WORDS
from manyreaders.showing import deed_text, rule_text

FIGURES = ("0", "1", "2", "3", "4", "5", "6", "7", "8", "9")
MOST_FIGURES = 3


def read_rule(text):
    """The rule that the text writes; refused with NoText, of anything."""
    # The kind is asked first: a list, say, can't be looked up in a dict.
    rule = rules_by_text().get(text) if isinstance(text, str) else None
    if rule is None:
        raise NoText(None)
    return rule


def rules_by_text():
    """All rules, by their texts."""
    rules = [
        (word, most, k, ups)
        for word in RULE_WORDS
        for most in range(GREATEST_MOST + 1)
        for k in range(GREATEST_K + 1 if word == "passes" else 1)
        for ups in (0, 1)
    ]
    return {rule_text(rule): rule for rule in rules}


def read_row(n, text):
    """The row of deeds of n guests that the text writes; refused with NoText, of anything."""
    if not isinstance(text, str):
        raise NoText(None)
    lines = text.split("\n") if text else []
    known = deeds_by_text(n)
    for place, line in enumerate(lines):
        if line not in known:
            raise NoText(place)
    return tuple([known[line] for line in lines])


def deeds_by_text(n):
    """All deeds of n guests, by their texts."""
    lefts = [None] + list(range(GREATEST_LEFT + 1))
    asks = [(want, guest, left) for want in WANTS for guest in range(n) for left in lefts]
    others = [(word, guest) for word in GUEST_WORDS for guest in range(n)]
    return {deed_text(deed): deed for deed in asks + others + [("tick",)]}


def read_room(text):
    """The room that the text writes; refused with NoText, of anything."""
    if not isinstance(text, str):
        raise NoText(None)
    words, *entries = text.split(", ")
    within = tuple(words.split(" "))
    room = (within, tuple([read_wait(entry) for entry in entries]))
    if len(within) > MOST_GUESTS or not is_room(len(within), room):
        raise NoText(None)
    return room


def read_wait(text):
    """The entry of waits that the text writes, as far as its numbers go, or None."""
    parts = text.split(" ")
    if len(parts) != 4:
        return None
    guest, want, mark, left = parts
    if guest not in FIGURES or not is_mark_text(mark) or (left != "-" and left not in FIGURES):
        return None
    return (int(guest), want, int(mark), None if left == "-" else int(left))


def is_mark_text(text):
    """Whether the text has one to three figures, with no nought ahead of others."""
    # Figure by figure: int would take signs, blanks, and other figures than these.
    if not 1 <= len(text) <= MOST_FIGURES or not all([sign in FIGURES for sign in text]):
        return False
    return text == "0" or text[0] != "0"
