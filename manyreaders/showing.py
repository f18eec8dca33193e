"""The texts of rules, deeds, rows, events and rooms."""

DEED_WORDS = {"read": "reads", "write": "writes", "up": "up", "down": "down", "leave": "leaves", "stop": "stops"}


def rule_text(rule):
    """Its word, then what of k, most and ups is told of it: passes 3 most 2 ups."""
    word, most, k, ups = rule
    parts = [word]
    if word == "passes":
        parts.append(str(k))
    if most != 0:
        parts.append(f"most {most}")
    if ups == 1:
        parts.append("ups")
    return " ".join(parts)


def deed_text(deed):
    """The guest, its word, and its left unless that is None: 1 writes 3; or tick."""
    if deed[0] == "tick":
        return "tick"
    text = f"{deed[1]} {DEED_WORDS[deed[0]]}"
    if len(deed) == 3 and deed[2] is not None:
        return f"{text} {deed[2]}"
    return text


def row_text(row):
    """A line for each deed."""
    return "\n".join([deed_text(deed) for deed in row])


def event_text(event):
    """The guest and the word: 0 waits."""
    word, guest = event
    return f"{guest} {word}"


def room_text(room):
    """The words within, and the entries of waits: reads out out, 1 write 2 -, 2 read 0 3."""
    within, waits = room
    return ", ".join([" ".join(within)] + [wait_text(entry) for entry in waits])


def wait_text(entry):
    guest, want, mark, left = entry
    return f"{guest} {want} {mark} {dashed(left)}"


def dashed(number):
    """The number's text, or a dash where there is none."""
    return "-" if number is None else str(number)
