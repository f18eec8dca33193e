"""Deeds whose books hold just as many rooms as a book may, and one more."""

# (rule, n, deeds): the book has 2000 rooms.
JUST = (
    ("turns", 1, 0, 1), 4,
    (
        ("read", 0, 1), ("read", 1, None), ("read", 1, 1), ("read", 2, None), ("read", 2, 1), ("read", 3, None),
        ("read", 3, 1), ("write", 2, None), ("write", 2, 1), ("write", 3, None), ("up", 0), ("up", 1), ("up", 3),
        ("down", 1), ("down", 2), ("down", 3), ("leave", 2), ("stop", 1), ("stop", 2),
    ),
)
# (rule, n, deeds): the book would have 2001 rooms.
ONE_MORE = (
    ("writers", 3, 0, 0), 5,
    (
        ("read", 0, None), ("read", 2, None), ("read", 3, None), ("read", 4, None), ("write", 0, None),
        ("write", 1, None), ("write", 3, None), ("write", 4, None), ("up", 0), ("up", 2), ("up", 4), ("down", 0),
        ("down", 2), ("down", 3), ("leave", 0), ("leave", 1), ("leave", 4), ("stop", 0), ("stop", 3), ("stop", 4),
    ),
)
