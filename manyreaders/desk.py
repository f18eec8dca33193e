"""A desk: a room in which deeds are done and undone, and that answers lines."""

from manyreaders.books import book
from manyreaders.deeds import all_deeds, can_do, done, may_do
from manyreaders.errors import NoLine, TooMany
from manyreaders.fair import told_most
from manyreaders.holding import held
from manyreaders.longest import longest
from manyreaders.reading import deeds_by_text, rules_by_text
from manyreaders.rooms import empty
from manyreaders.runs import pages, waited
from manyreaders.showing import dashed, deed_text, event_text, room_text


class Desk:
    """A room, at first the empty one, and the deeds that were done."""

    def __init__(self, rule, n):
        self.rule = rule
        self.n = n
        self.row = ()
        self.rooms = [empty(n)]

    def say(self, line):
        """The answer to the line; refused with NoLine where it is none of the desk's."""
        if not isinstance(line, str):
            raise NoLine("no text")
        deeds = deeds_by_text(self.n)
        if line in deeds:
            return answer_deed(self, deeds[line])
        if line in ANSWERS:
            answer = ANSWERS[line]
            return answer(self)
        return answer_about(self, line)


def answer_deed(desk, deed):
    room = desk.rooms[-1]
    if not can_do(room, deed):
        return "no"
    behind, events = done(desk.rule, room, deed)
    desk.row = desk.row + (deed,)
    desk.rooms.append(behind)
    return listed([event_text(event) for event in events])


def listed(texts):
    return ", ".join(texts) if texts else "-"


def answer_back(desk):
    if not desk.row:
        return "none"
    desk.row = desk.row[:-1]
    desk.rooms.pop()
    return "ok"


def answer_room(desk):
    return room_text(desk.rooms[-1])


def answer_done(desk):
    return listed([deed_text(deed) for deed in desk.row])


def answer_may(desk):
    return str(len(may_do(desk.n, desk.rooms[-1])))


def answer_pages(desk):
    return listed([f"{guest} {word} {number}" for guest, word, number in pages(desk.rule, desk.n, desk.row)])


def answer_waits(desk):
    return listed([wait_line(wait) for wait in waited(desk.rule, desk.n, desk.row)])


def wait_line(wait):
    guest, want, others, how = wait
    ending = "still" if how is None else how
    return f"{guest} {want} {others} {ending}"


def answer_fair(desk):
    reads, writes = told_most(desk.rule, desk.n)
    return f"{dashed(reads)} {dashed(writes)}"


def answer_book(desk):
    try:
        return str(len(book(desk.rule, desk.n, all_deeds(desk.n))))
    except TooMany:
        return "many"


def answer_about(desk, line):
    """The answer to a line that asks about a guest or about another rule."""
    word, blank, rest = line.partition(" ")
    guests = {str(guest): guest for guest in range(desk.n)}
    rules = rules_by_text()
    if word == "longest" and rest in guests:
        return longest_line(desk, guests[rest])
    if word == "against" and rest in rules:
        return against_line(desk, rules[rest])
    raise NoLine("no line that a desk answers")


def longest_line(desk, guest):
    try:
        told = longest(desk.rule, desk.n, all_deeds(desk.n), guest)
    except TooMany:
        return "many"
    return str(told[1]) if told[0] == "within" else "starves"


def against_line(desk, other):
    try:
        word, told = held(desk.rule, other, desk.n, all_deeds(desk.n))
    except TooMany:
        return "many"
    if word == "alike":
        return "alike"
    return "parts " + listed([deed_text(deed) for deed in told])


# The lines of one word that write no deed.
ANSWERS = {
    "back": answer_back,
    "room": answer_room,
    "done": answer_done,
    "may": answer_may,
    "pages": answer_pages,
    "waits": answer_waits,
    "fair": answer_fair,
    "book": answer_book,
}
