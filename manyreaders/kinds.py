"""What is asked first of a thing that may be of any kind."""


def is_whole(thing):
    # Python takes True and False for ints; here they are no whole numbers.
    return isinstance(thing, int) and not isinstance(thing, bool)


def is_between(thing, low, high):
    """Whether the thing is a whole number from low to high."""
    return is_whole(thing) and low <= thing <= high


def is_word(thing, words):
    # The kind is asked first: a thing of another kind may answer == as it likes.
    return isinstance(thing, str) and thing in words


def is_tuple_of(thing, many):
    """Whether the thing is a tuple of so many parts."""
    return isinstance(thing, tuple) and len(thing) == many
