"""How many others a rule lets in, at most, while one waits."""


def told_most(rule, n):
    """The most others let in while one waits to read, and while one waits to write; None where there is no most."""
    if n < 3:
        return (0, 0)
    word, most, k, ups = rule
    others = n - 2
    if word == "readers":
        return (others, None)
    if word == "writers":
        return (None, others)
    if word == "turns":
        return (others if most == 0 else others + 1, others * (n + 1) // 2)
    if word == "passes":
        return (others, others + k)
    return (others, others)
