"""Deeds whose books hold just as many rooms as a book may, and one more."""

# (rule, n, deeds): the book has 2000 rooms.
JUST = (
    ("turns", 1, 0, 1), 4,
    (
        ("read", 0, 1), ("read", 1, None), ("read", 1, 1), ("read", 2, None), ("read", 2, 1), ("read", 3, None),
        ("read", 3, 1), ("write", 2, None), ("write", 2, 1), ("write", 3, None), ("up", 0), ("up", 1), ("up", 3),
        ("down", 1), ("down", 2), ("down", 3), ("leave", 2), ("stop", 1), ("stop", 2),
    ),
)
# (rule, n, deeds): the book would have 2001 rooms.
ONE_MORE = (
    ("writers", 3, 0, 0), 5,
    (
        ("read", 0, None), ("read", 2, None), ("read", 3, None), ("read", 4, None), ("write", 0, None),
        ("write", 1, None), ("write", 3, None), ("write", 4, None), ("up", 0), ("up", 2), ("up", 4), ("down", 0),
        ("down", 2), ("down", 3), ("leave", 0), ("leave", 1), ("leave", 4), ("stop", 0), ("stop", 3), ("stop", 4),
    ),
)
# (one, other, n, deeds): 2000 pairs are come to, then the rules part.
PARTS_JUST = (
    ("rows", 3, 0, 0), ("rows", 4, 0, 0), 5,
    (
        ("write", 4, None), ("write", 0, None), ("read", 3, 1), ("down", 3), ("read", 1, None), ("write", 1, None),
        ("read", 1, 1), ("leave", 3), ("stop", 4), ("up", 3), ("read", 0, 1), ("stop", 2), ("read", 3, None),
        ("down", 2), ("tick",), ("write", 2, 1),
    ),
)
# (one, other, n, deeds): by the deed ahead of the one that would part the rules, in the same pair, the 2001st is come to.
PARTS_LATE = (
    ("rows", 3, 0, 0), ("rows", 4, 0, 0), 5,
    (
        ("write", 4, None), ("write", 0, None), ("read", 3, 1), ("down", 3), ("read", 0, 1), ("write", 1, None),
        ("read", 1, 1), ("leave", 3), ("read", 1, None), ("tick",), ("stop", 4), ("stop", 2), ("read", 3, None),
        ("down", 2), ("up", 3), ("write", 2, 1),
    ),
)
# (rule, plans): weavings come to just 4000 of what is gone on with, some of them stuck.
WOVEN_JUST = (
    ("turns", 0, 0, 1),
    (
        ("write", "leave", "leave", "up"), ("write", "up", "up", "down", "leave", "write"),
        ("down", "read", "read", "up", "write", "down"), ("read", "down", "down", "leave", "write", "leave"),
    ),
)
# (rule, plans): they would come to 4001.
WOVEN_ONE_MORE = (
    ("passes", 0, 1, 1),
    (
        ("write", "leave"), ("read", "up", "leave", "down", "write"), ("read", "down", "up", "down", "leave", "down"),
        ("write", "leave", "leave", "leave", "down"),
    ),
)
