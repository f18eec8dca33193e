"""Rooms of n guests: tuples (within, waits)."""

from manyreaders.kinds import is_between, is_tuple_of, is_word

WITHIN_WORDS = ("out", "reads", "rising", "writes", "raised")
READING_WORDS = ("reads", "rising")
WRITING_WORDS = ("writes", "raised")
WANTS = ("read", "write")
MOST_GUESTS = 5
GREATEST_MARK = 999
GREATEST_LEFT = 9


def is_room(n, thing):
    """Whether the thing, of any kind, is formed as a room of n guests."""
    if not is_tuple_of(thing, 2):
        return False
    within, waits = thing
    return is_within(n, within) and are_waits(within, waits)


def is_within(n, thing):
    return is_tuple_of(thing, n) and all([is_word(word, WITHIN_WORDS) for word in thing])


def are_waits(within, thing):
    if not isinstance(thing, tuple) or not all([is_wait(within, entry) for entry in thing]):
        return False
    guests = [entry[0] for entry in thing]
    return len(set(guests)) == len(guests)


def is_wait(within, thing):
    """Whether the thing is an entry of waits beside this within."""
    if not is_tuple_of(thing, 4):
        return False
    guest, want, mark, left = thing
    if not is_between(guest, 0, len(within) - 1) or within[guest] != "out":
        return False
    if not is_word(want, WANTS) or not is_between(mark, 0, GREATEST_MARK):
        return False
    return left is None or is_between(left, 1, GREATEST_LEFT)


def empty(n):
    """The room of n guests that are all out, where nobody waits."""
    return (("out",) * n, ())


def readers_in(room):
    """The rising tuple of the guests that read or rise."""
    return guests_with(room, READING_WORDS)


def writer_in(room):
    """The least guest that writes or is raised, or None."""
    writers = guests_with(room, WRITING_WORDS)
    return writers[0] if writers else None


def guests_with(room, words):
    return tuple([guest for guest, word in enumerate(room[0]) if word in words])


def with_word(room, guest, word):
    """The room with this word within for the guest."""
    within, waits = room
    return (within[:guest] + (word,) + within[guest + 1:], waits)


def without_wait(room, guest):
    """The room without the guest's entry in waits."""
    within, waits = room
    return (within, tuple([entry for entry in waits if entry[0] != guest]))


def waiting(room, guest):
    """What the guest waits for: "read", "write", "up" of a rising one, else None."""
    # A search, not an index: of a number that is no guest of the room None is told, too.
    if guest in guests_with(room, ("rising",)):
        return "up"
    for entry in room[1]:
        if entry[0] == guest:
            return entry[1]
    return None


def waits_in(room, guest):
    """Whether the guest waits in waits: a rising one doesn't."""
    return waiting(room, guest) in WANTS


def is_safe(rule, room):
    """Whether those within may be there together by the rule."""
    most = rule[1]
    readers = len(readers_in(room))
    writers = len(guests_with(room, WRITING_WORDS))
    rising = len(guests_with(room, ("rising",)))
    if writers > 1 or rising > 1:
        return False
    if writers == 1 and readers > 0:
        return False
    return most == 0 or readers <= most
