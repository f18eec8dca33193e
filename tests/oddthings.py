"""Things of any kind, for the lookers that take anything."""


class Alike:
    """Says that it is equal to everything, and has every number's and text's manners but its kind."""

    def __eq__(self, other):
        return True

    def __hash__(self):
        return 0

    def __len__(self):
        return 4

    def __iter__(self):
        return iter((Alike(), Alike(), Alike(), Alike()))

    def __le__(self, other):
        return True

    def __ge__(self, other):
        return True


class Thorny:
    """Whoever compares, counts, hashes or walks it fails."""

    def __eq__(self, other):
        raise RuntimeError("compared")

    def __len__(self):
        raise RuntimeError("counted")

    def __hash__(self):
        raise RuntimeError("hashed")

    def __iter__(self):
        raise RuntimeError("walked")

    def __bool__(self):
        raise RuntimeError("asked for its truth")


def nested(deep, kind=tuple):
    thing = kind()
    for step in range(deep - 1):
        thing = kind([thing])
    return thing


def nested_dict(deep):
    thing = {}
    for step in range(deep - 1):
        thing = {"in": thing}
    return thing


def odd_things():
    """No rule, no room, no word, no number within any bound, and not None."""
    return [
        True, False, -1, -1000, 10 ** 30, 1.0, 0.0, float("nan"), 1j,
        "", "rows ", "ROWS", "outs", "\ud800", "0", "1", b"", b"rows", b"out", b"read", bytearray(b"rows"),
        (), [], {}, set(), frozenset(), [0], {0: 1}, {0}, (0,), (None,), ((),), range(4), iter(()),
        object(), object, int, len, Alike(), Thorny(), ValueError("rows"), Ellipsis,
        nested(60), nested(60, list), nested_dict(60),
    ]


def with_part(whole, place, part):
    return whole[:place] + (part,) + whole[place + 1:]
