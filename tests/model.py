"""The document's words once more, written as a house that changes, to hold the program against."""

import itertools

WORDS = ("rows", "readers", "writers", "turns", "passes")


class Refused(Exception):
    pass


class House:
    def __init__(self, rule, room):
        self.word, self.most, self.k, self.ups = rule
        within, waits = room
        self.within = list(within)
        self.waits = [list(entry) for entry in waits]
        self.events = []

    def room(self):
        return (tuple(self.within), tuple(tuple(entry) for entry in self.waits))

    def entry_of(self, guest):
        for entry in self.waits:
            if entry[0] == guest:
                return entry
        return None

    def can(self, guest):
        entry = self.entry_of(guest)
        if entry is not None and entry[1] == "read":
            if {"writes", "raised", "rising"} & set(self.within):
                return False
            return self.most == 0 or self.within.count("reads") < self.most
        if entry is not None:
            return set(self.within) == {"out"}
        if 0 <= guest < len(self.within) and self.within[guest] == "rising":
            return self.within.count("out") == len(self.within) - 1
        return False

    def first_that(self, test):
        return next((entry for entry in self.waits if test(entry)), None)

    def next(self):
        reads = self.first_that(lambda entry: entry[1] == "read")
        writes = self.first_that(lambda entry: entry[1] == "write")
        marked = self.first_that(lambda entry: entry[2] == 1)
        if self.word == "passes":
            able = [at for at, entry in enumerate(self.waits) if self.can(entry[0])]
            if able and all(entry[2] < self.k for entry in self.waits[:able[0]]):
                return self.waits[able[0]][0]
            return None
        if self.word == "rows":
            chosen = self.waits[0] if self.waits else None
        elif self.word == "readers":
            chosen = reads if reads is not None else writes
        elif self.word == "turns" and marked is not None:
            chosen = marked
        else:
            chosen = writes if writes is not None else reads
        return chosen[0] if chosen is not None and self.can(chosen[0]) else None

    def settle(self):
        while True:
            rising = [guest for guest, word in enumerate(self.within) if word == "rising" and self.can(guest)]
            guest = self.next()
            if rising:
                self.within[rising[0]] = "raised"
                self.events.append(("steps", rising[0]))
            elif guest is not None:
                entry = self.entry_of(guest)
                place = self.waits.index(entry)
                for other in self.waits[:place]:
                    other[2] += 1 if self.word == "passes" else 0
                del self.waits[place]
                self.within[guest] = entry[1] + "s"
                self.events.append(("in", guest))
            else:
                return

    def ask(self, want, guest, left):
        if self.within[guest] != "out" or self.entry_of(guest):
            raise Refused
        self.waits.append([guest, want, 0, left or (None if left is None else 1)])
        self.settle()
        entry = self.entry_of(guest)
        if entry is not None and left == 0:
            self.waits.remove(entry)
            self.events.append(("no", guest))
        elif entry is not None:
            self.events.append(("waits", guest))

    def up(self, guest):
        if self.within[guest] != "reads":
            raise Refused
        if self.ups == 0 or "rising" in self.within:
            self.events.append(("no", guest))
            return
        self.within[guest] = "rising"
        self.settle()
        if self.within[guest] == "rising":
            self.events.append(("waits", guest))

    def turn(self, guest):
        if self.word == "turns" and self.within[guest] == "writes":
            for entry in self.waits:
                entry[2] = 1 if entry[1] == "read" else entry[2]

    def down(self, guest):
        if self.within[guest] not in ("writes", "raised"):
            raise Refused
        self.events.append(("down", guest))
        self.turn(guest)
        self.within[guest] = "reads"
        self.settle()

    def leave(self, guest):
        if self.within[guest] == "out":
            raise Refused
        self.events.append(("out", guest))
        self.turn(guest)
        self.within[guest] = "out"
        self.settle()

    def stop(self, guest):
        entry = self.entry_of(guest)
        if entry is not None:
            self.waits.remove(entry)
        elif self.within[guest] == "rising":
            self.within[guest] = "reads"
        else:
            raise Refused
        self.events.append(("ends", guest))
        self.settle()

    def tick(self):
        for entry in list(self.waits):
            if entry[3] is not None:
                entry[3] -= 1
                if entry[3] == 0:
                    self.waits.remove(entry)
                    self.events.append(("ends", entry[0]))
        self.settle()

    def do(self, deed):
        self.events = []
        if deed[0] in ("read", "write"):
            self.ask(*deed)
        else:
            getattr(self, deed[0])(*deed[1:])
        return tuple(self.events)


def model_stepped(rule, room, deed):
    """(room, events), or None where the deed can't be done."""
    house = House(rule, room)
    try:
        events = house.do(deed)
    except Refused:
        return None
    return (house.room(), events)


def empty_room(n):
    return (("out",) * n, ())


def every_rule(mosts=(0, 1, 2), ks=(0, 1, 2, 9)):
    """Rules of each word, with these bounds of readers and ks, with steps up and without them."""
    return [
        (word, most, k, ups)
        for word in WORDS
        for most in mosts
        for k in (ks if word == "passes" else (0,))
        for ups in (0, 1)
    ]


def every_room(n, marks=(0, 1, 2), lefts=(None,)):
    """All well-formed rooms of n guests with these marks and lefts, unsafe and unsettled ones too."""
    rooms = []
    for within in itertools.product(("out", "reads", "rising", "writes", "raised"), repeat=n):
        outs = [guest for guest in range(n) if within[guest] == "out"]
        for many in range(len(outs) + 1):
            for guests in itertools.permutations(outs, many):
                parts = itertools.product(itertools.product(("read", "write"), marks, lefts), repeat=many)
                for part in parts:
                    rooms.append((within, tuple((guest,) + rest for guest, rest in zip(guests, part))))
    return rooms


def deeds_of(n, lefts=(None, 0, 1, 9)):
    """All deeds of n guests with these lefts, and the tick."""
    deeds = [(want, guest, left) for want in ("read", "write") for guest in range(n) for left in lefts]
    deeds += [(word, guest) for word in ("up", "down", "leave", "stop") for guest in range(n)]
    return deeds + [("tick",)]


def walk(rule, n, many, choose, lefts=(None, 0, 1, 2, 9)):
    """A row of deeds that can be done, from the empty room on; choose draws one of a list."""
    room, row = empty_room(n), []
    for step in range(many):
        able = [deed for deed in deeds_of(n, lefts) if model_stepped(rule, room, deed) is not None]
        row.append(choose(able))
        room = model_stepped(rule, room, row[-1])[0]
    return tuple(row)


def model_book(rule, n, deeds):
    """Each room that rows of the deeds lead to, in order, with the first row to it by size; without any bound."""
    rows = {empty_room(n): ()}
    newest = [empty_room(n)]
    while newest:
        found = []
        for room in newest:
            for deed in deeds:
                told = model_stepped(rule, room, deed)
                if told is not None and told[0] not in rows:
                    rows[told[0]] = rows[room] + (deed,)
                    found.append(told[0])
        newest = found
    return rows


def model_held(one, other, n, deeds):
    """What held tells, and how many pairs are come to ahead of the parting or in all; without any bound."""
    start = (empty_room(n), empty_room(n))
    rows = {start: ()}
    newest = [start]
    while newest:
        found = []
        for pair in newest:
            for deed in deeds:
                first, second = model_stepped(one, pair[0], deed), model_stepped(other, pair[1], deed)
                if first is None and second is None:
                    continue
                if first is None or second is None or first[1] != second[1]:
                    return ("parts", rows[pair] + (deed,)), len(rows)
                behind = (first[0], second[0])
                if behind not in rows:
                    rows[behind] = rows[pair] + (deed,)
                    found.append(behind)
        newest = found
    return ("alike", tuple(rows)), len(rows)


PLAN_WORDS = ("read", "write", "up", "down", "leave")


def model_step(rule, plans, room, counts, guest):
    """(room, counts, deed, events) behind the guest's step, None where it can't step; deed None of a word passed over."""
    rising = room[0][guest] == "rising"
    if counts[guest] == len(plans[guest]) or rising or any(entry[0] == guest for entry in room[1]):
        return None
    word = plans[guest][counts[guest]]
    deed = (word, guest, None) if word in ("read", "write") else (word, guest)
    counts = counts[:guest] + (counts[guest] + 1,) + counts[guest + 1:]
    told = model_stepped(rule, room, deed)
    return (room, counts, None, ()) if told is None else (told[0], counts, deed, told[1])


def model_weave(rule, plans, draw):
    """A weaving drawn step by step, as far as it goes, with the rooms behind each step and its events."""
    room, counts = empty_room(len(plans)), (0,) * len(plans)
    weaving, rooms, brought = [], [room], []
    while True:
        steps = [(guest, model_step(rule, plans, room, counts, guest)) for guest in range(len(plans))]
        steps = [(guest, step) for guest, step in steps if step is not None]
        if not steps:
            return tuple(weaving), rooms, brought
        guest, (room, counts, deed, events) = draw.choice(steps)
        weaving.append(guest)
        rooms.append(room)
        brought.append(events)


def some_plans(n, draw, most=6):
    """Plans of n guests of none to so many words each."""
    return tuple(tuple(draw.choice(PLAN_WORDS) for word in range(draw.randrange(most + 1))) for guest in range(n))


def model_states(rule, plans):
    """All unlike (room, counts, number, met) that weavings come to; without any bound."""
    n = len(plans)
    start = (empty_room(n), (0,) * n, 0, ((),) * n)
    seen, newest = {start}, [start]
    while newest:
        room, counts, number, met = newest.pop()
        for guest in range(n):
            step = model_step(rule, plans, room, counts, guest)
            if step is not None:
                behind, later, deed, events = step
                page = number + model_turns_page(room, deed)
                numbers = [list(told) for told in met]
                for word, who in events:
                    if word in ("in", "steps"):
                        numbers[who].append(page)
                state = (behind, later, page, tuple(tuple(told) for told in numbers))
                if state not in seen:
                    seen.add(state)
                    newest.append(state)
    return seen


def model_turns_page(room, deed):
    """1 where by the deed, done in the room, one that writes leaves or steps down, else 0."""
    return int(deed is not None and deed[0] in ("down", "leave") and room[0][deed[1]] in ("writes", "raised"))


def every_weaving(rule, plans):
    """All weavings that can't go on, one by one: (weaving, room, whether whole, the numbers met by each)."""
    n = len(plans)
    pending = [((), empty_room(n), (0,) * n, 0, ((),) * n)]
    while pending:
        weaving, room, counts, number, met = pending.pop()
        able = False
        for guest in range(n):
            step = model_step(rule, plans, room, counts, guest)
            if step is not None:
                able = True
                behind, later, deed, events = step
                page = number + model_turns_page(room, deed)
                numbers = list(met)
                for word, who in events:
                    if word in ("in", "steps"):
                        numbers[who] += (page,)
                pending.append((weaving + (guest,), behind, later, page, tuple(numbers)))
        if not able:
            yield weaving, room, counts == tuple(len(plan) for plan in plans), met
