"""A desk: point 26, and (h) of point 3."""

import copy
import itertools
import random
import unittest

from model import deeds_of, empty_room, every_rule, model_book, model_held, model_stepped
from oddthings import odd_things

from manyreaders.books import book
from manyreaders.deeds import all_deeds, may_do
from manyreaders.desk import Desk
from manyreaders.errors import GuestError, NoLine, TooMany
from manyreaders.fair import told_most
from manyreaders.holding import held
from manyreaders.longest import longest
from manyreaders.runs import pages, ran, waited
from manyreaders.showing import deed_text, event_text, room_text, rule_text

ROWS = ("rows", 0, 0, 0)
ROWS_UP = ("rows", 0, 0, 1)
READERS = ("readers", 0, 0, 0)
BAD_LINES = (
    "", " ", "\n", "-", "no", "ok", "none", "many", "help", "Room", "ROOM", "room ", " room", "room room", "room 0", "rooms",
    "back ", " back", "back 1", "Back", "backs", "done ", "done 0", "may ", "may 0", "mays", "pages ", "page", "pages 0",
    "waits ", "wait", "waits 0", "0 waits", "0 in", "0 out", "0 no", "0 steps", "0 ends", "fair ", "fairs", "fair 0", "book ",
    "books", "book 0", "longest", "longest ", "longest  0", "longest 0 ", "longest 00", "longest 01", "longest -1", "longest +0",
    "longest 3", "longest 9", "longest 10", "longest x", "longest 0 1", "longest\t0", "longest\n0", "longest \u0660", "Longest 0",
    "against", "against ", "against  rows", "against rows ", "against row", "against rows 0", "against passes", "against 0",
    "against rows\n", "against Rows", "against rows most 0", "against rows most 6", "against rows ups most 2", "Against rows",
    "against rows, rows", "against\trows", "rows", "passes 3", "out out out", "reads out out", "tick ", " tick", "Tick", "tick\n",
    "tick\ntick", "0 reads\n1 reads", "0 reads, 1 reads", "0 reads ", " 0 reads", "0  reads", "00 reads", "0 read", "0 Reads",
    "0 reads 10", "0 reads -", "0 reads -1", "0 reads 01", "0 up 0", "0 leave", "0 stop", "3 reads", "3 writes 3", "3 up",
    "3 down", "3 leaves", "3 stops", "9 reads", "-1 reads", "\u0660 reads", "room\r", "room\0", "\ud800", "back\nback",
)


class DeskCase(unittest.TestCase):
    def says(self, desk, *talk):
        for line, answer in talk:
            self.assertEqual(desk.say(line), answer, line)

    def refused(self, desk, line):
        with self.assertRaises(NoLine, msg=repr(line)):
            desk.say(line)


class DeedTests(DeskCase):
    def test_events_are_told(self):
        self.says(
            Desk(ROWS_UP, 3),
            ("0 reads", "0 in"), ("1 reads", "1 in"), ("2 writes", "2 waits"), ("0 up", "0 waits"), ("1 up", "1 no"),
            ("1 leaves", "1 out, 0 steps"), ("0 down", "0 down"), ("0 leaves", "0 out, 2 in"), ("0 reads 0", "0 no"),
            ("0 reads 1", "0 waits"), ("1 reads", "1 waits"), ("tick", "0 ends"), ("1 stops", "1 ends"), ("2 leaves", "2 out"),
        )

    def test_none_of_them(self):
        self.says(Desk(ROWS, 1), ("tick", "-"), ("0 reads", "0 in"), ("tick", "-"), ("done", "tick, 0 reads, tick"))

    def test_what_can_not_be_done(self):
        desk = Desk(ROWS, 2)
        for line in ("0 leaves", "0 up", "0 down", "0 stops", "1 leaves"):
            self.says(desk, (line, "no"), ("room", "out out"), ("done", "-"))
        self.says(desk, ("0 writes", "0 in"), ("0 writes", "no"), ("0 reads 3", "no"), ("0 up", "no"), ("0 stops", "no"))
        self.says(desk, ("1 writes 9", "1 waits"), ("1 reads", "no"), ("1 leaves", "no"), ("1 down", "no"))
        self.says(desk, ("room", "writes out, 1 write 0 9"), ("done", "0 writes, 1 writes 9"))

    def test_an_ask_that_is_refused_is_done(self):
        # The event no is told with its guest; it is a deed that was done.
        self.says(
            Desk(ROWS, 2), ("0 reads", "0 in"), ("0 up", "0 no"), ("1 writes 0", "1 no"),
            ("done", "0 reads, 0 up, 1 writes 0"), ("back", "ok"), ("back", "ok"), ("done", "0 reads"),
        )

    def test_all_rules(self):
        for rule in every_rule():
            self.says(Desk(rule, 1), ("0 writes", "0 in"), ("0 down", "0 down"), ("0 up", "0 steps" if rule[3] else "0 no"))


class BackTests(DeskCase):
    def test_nothing_done(self):
        self.says(Desk(ROWS, 1), ("back", "none"), ("back", "none"), ("room", "out"), ("done", "-"))

    def test_one_by_one(self):
        desk = Desk(("passes", 0, 3, 0), 3)
        self.says(desk, ("0 reads", "0 in"), ("1 writes 5", "1 waits"), ("2 reads", "2 in"), ("tick", "-"))
        self.says(desk, ("room", "reads out reads, 1 write 1 4"), ("back", "ok"), ("room", "reads out reads, 1 write 1 5"))
        self.says(desk, ("back", "ok"), ("room", "reads out out, 1 write 0 5"), ("back", "ok"), ("room", "reads out out"))
        self.says(desk, ("done", "0 reads"), ("back", "ok"), ("room", "out out out"), ("done", "-"), ("back", "none"))

    def test_behind_a_deed_that_could_not_be_done(self):
        desk = Desk(ROWS, 2)
        self.says(desk, ("0 reads", "0 in"), ("1 leaves", "no"), ("back", "ok"), ("room", "out out"), ("back", "none"))

    def test_it_goes_on_from_there(self):
        desk = Desk(ROWS, 2)
        self.says(desk, ("0 reads", "0 in"), ("0 leaves", "0 out"), ("back", "ok"), ("1 writes", "1 waits"))
        self.says(desk, ("done", "0 reads, 1 writes"), ("0 leaves", "0 out, 1 in"), ("pages", "0 read 0, 1 write 0"))

    def test_more_often_than_deeds_were_done(self):
        desk = Desk(ROWS, 1)
        self.says(desk, ("0 reads", "0 in"), ("0 leaves", "0 out"))
        self.says(desk, *[("back", "ok")] * 2 + [("back", "none")] * 3)
        self.says(desk, ("0 reads", "0 in"), ("done", "0 reads"), ("back", "ok"), ("back", "none"))

    def test_pages_and_waits_of_what_is_undone_are_gone(self):
        desk = Desk(ROWS, 2)
        self.says(desk, ("0 writes", "0 in"), ("1 reads", "1 waits"), ("0 leaves", "0 out, 1 in"))
        self.says(desk, ("pages", "0 write 0, 1 read 1"), ("waits", "1 read 0 in"), ("back", "ok"))
        self.says(desk, ("pages", "0 write 0"), ("waits", "1 read 0 still"), ("back", "ok"))
        self.says(desk, ("pages", "0 write 0"), ("waits", "-"), ("back", "ok"), ("pages", "-"))


class AskTests(DeskCase):
    def test_a_new_desk(self):
        for rule, n in itertools.product(every_rule(ks=(1,)), range(1, 6)):
            outs = " ".join(["out"] * n)
            self.says(Desk(rule, n), ("room", outs), ("done", "-"), ("pages", "-"), ("waits", "-"), ("may", str(2 * n)))

    def test_pages(self):
        desk = Desk(ROWS_UP, 2)
        self.says(desk, ("0 reads", "0 in"), ("0 up", "0 steps"), ("1 writes", "1 waits"), ("0 leaves", "0 out, 1 in"))
        self.says(desk, ("1 down", "1 down"), ("1 up", "1 steps"), ("pages", "0 read 0, 0 up 0, 1 write 1, 1 up 2"))

    def test_page_numbers_of_two_figures(self):
        desk = Desk(ROWS, 1)
        for number in range(12):
            self.says(desk, ("0 writes", "0 in"), ("0 leaves", "0 out"))
        self.assertEqual(desk.say("pages").split(", ")[9:], ["0 write 9", "0 write 10", "0 write 11"])

    def test_waits(self):
        desk = Desk(READERS, 3)
        self.says(desk, ("0 reads", "0 in"), ("1 writes", "1 waits"), ("2 reads", "2 in"), ("waits", "1 write 1 still"))
        self.says(desk, ("2 leaves", "2 out"), ("2 writes 1", "2 waits"), ("tick", "2 ends"), ("0 leaves", "0 out, 1 in"))
        told = "1 write 1 in, 2 write 0 ends"
        self.says(desk, ("waits", told), ("0 reads 0", "0 no"), ("waits", told))

    def test_a_rising_one_is_in_no_waits(self):
        desk = Desk(ROWS_UP, 2)
        self.says(desk, ("0 reads", "0 in"), ("1 reads", "1 in"), ("0 up", "0 waits"), ("waits", "-"))
        self.says(desk, ("room", "rising reads"))

    def test_may(self):
        desk = Desk(ROWS, 2)
        self.says(desk, ("may", "4"), ("0 writes", "0 in"), ("may", "4"), ("1 reads", "1 waits"), ("may", "3"))
        self.says(desk, ("0 down", "0 down, 1 in"), ("may", "4"))

    def test_fair(self):
        self.says(Desk(ROWS, 3), ("fair", "1 1"))
        self.says(Desk(READERS, 3), ("fair", "1 -"))
        self.says(Desk(("writers", 2, 0, 1), 5), ("fair", "- 3"))
        self.says(Desk(("turns", 1, 0, 0), 5), ("fair", "4 9"))
        self.says(Desk(("passes", 0, 9, 0), 4), ("fair", "2 11"))
        self.says(Desk(READERS, 2), ("fair", "0 0"))

    def test_book(self):
        self.says(Desk(ROWS, 1), ("book", "3"))
        self.says(Desk(ROWS_UP, 1), ("book", "4"))
        for rule, n in itertools.product(every_rule(), range(1, 4)):
            self.says(Desk(rule, n), ("book", str(len(model_book(rule, n, all_deeds(n))))))

    def test_book_of_many(self):
        self.says(Desk(ROWS, 5), ("book", "many"), ("0 reads", "0 in"), ("book", "many"))
        self.says(Desk(("passes", 2, 9, 1), 5), ("book", "many"))
        for rule in every_rule(mosts=(0, 1), ks=(2,)):
            rooms = len(model_book(rule, 4, all_deeds(4)))
            self.says(Desk(rule, 4), ("book", str(rooms) if rooms <= 2000 else "many"))

    def test_longest(self):
        self.says(Desk(ROWS, 3), ("longest 0", "2"), ("longest 1", "2"), ("longest 2", "2"))
        self.says(Desk(READERS, 3), ("longest 0", "starves"), ("longest 2", "starves"))
        self.says(Desk(ROWS, 1), ("longest 0", "0"))
        self.says(Desk(ROWS, 5), ("longest 4", "many"))
        self.says(Desk(READERS, 5), ("longest 0", "many"))

    def test_longest_of_a_guest_that_is_not_there(self):
        for n in range(1, 5):
            for guest in range(n, 10):
                self.refused(Desk(ROWS, n), f"longest {guest}")

    def test_longest_by_all_rules(self):
        for rule in every_rule(mosts=(0, 1), ks=(1,)):
            for n, guest in ((1, 0), (2, 1), (3, 1)):
                told = longest(rule, n, all_deeds(n), guest)
                self.says(Desk(rule, n), (f"longest {guest}", str(told[1]) if told[0] == "within" else "starves"))

    def test_against(self):
        self.says(Desk(ROWS, 3), ("against rows", "alike"), ("against passes 0", "alike"), ("against rows most 3", "alike"))
        self.says(Desk(ROWS, 3), ("against rows ups", "parts 0 reads, 0 up"))
        self.says(Desk(ROWS, 3), ("against readers", "parts 0 reads, 1 writes, 2 reads"))
        self.says(Desk(ROWS, 2), ("against rows most 1", "parts 0 reads, 1 reads"))

    def test_against_the_same_rule(self):
        for rule, n in itertools.product(every_rule(), (1, 2, 3)):
            self.says(Desk(rule, n), (f"against {rule_text(rule)}", "alike"))

    def test_against_many(self):
        self.says(Desk(ROWS, 5), ("against rows", "many"), ("against passes 0", "many"))
        self.says(Desk(ROWS, 5), ("against rows ups", "parts 0 reads, 0 up"))

    def test_against_all_rules(self):
        for one, other in itertools.product(every_rule(mosts=(0, 1), ks=(0, 1)), repeat=2):
            word, told = model_held(one, other, 2, all_deeds(2))[0]
            answer = "alike" if word == "alike" else "parts " + ", ".join(deed_text(deed) for deed in told)
            self.says(Desk(one, 2), (f"against {rule_text(other)}", answer))

    def test_asking_changes_nothing(self):
        desk = Desk(ROWS, 3)
        self.says(desk, ("0 reads", "0 in"), ("1 writes", "1 waits"))
        for line in ("room", "done", "may", "pages", "waits", "fair", "book", "longest 1", "against readers"):
            first = desk.say(line)
            self.assertIs(type(first), str)
            self.says(desk, (line, first), ("room", "reads out out, 1 write 0 -"), ("done", "0 reads, 1 writes"))
        self.says(desk, ("0 leaves", "0 out, 1 in"))


class RefusedTests(DeskCase):
    def test_texts_that_are_no_line(self):
        desk = Desk(ROWS_UP, 3)
        self.says(desk, ("0 writes", "0 in"), ("1 reads 4", "1 waits"), ("0 leaves", "0 out, 1 in"), ("2 writes", "2 waits"))
        ahead = [desk.say(line) for line in ("room", "done", "pages", "waits", "may")]
        for line in BAD_LINES:
            self.refused(desk, line)
            self.assertEqual([desk.say(line) for line in ("room", "done", "pages", "waits", "may")], ahead)
        self.says(desk, ("back", "ok"), ("done", "0 writes, 1 reads 4, 0 leaves"))

    def test_guests_beyond_n(self):
        for n in range(1, 6):
            for word in ("reads", "writes 0", "up", "down", "leaves", "stops"):
                self.assertIn(Desk(ROWS, n).say(f"{n - 1} {word}"), (f"{n - 1} in", "no"))
                self.refused(Desk(ROWS, n), f"{n} {word}")

    def test_what_is_no_text(self):
        desk = Desk(ROWS, 2)
        for thing in odd_things() + [None, 0, b"room", ("tick",), ["room"]]:
            self.refused(desk, thing)
        self.says(desk, ("done", "-"))

    def test_it_is_a_refusal_with_words(self):
        with self.assertRaises(GuestError) as caught:
            Desk(ROWS, 1).say("what?")
        self.assertIs(type(caught.exception), NoLine)
        self.assertTrue(str(caught.exception))

    def test_drawn_lines(self):
        draw = random.Random(26)
        desk = Desk(ROWS, 2)
        lines = {deed_text(deed) for deed in deeds_of(2, lefts=(None,) + tuple(range(10)))}
        lines |= {"back", "room", "done", "may", "pages", "waits", "fair", "book", "longest 0", "longest 1"}
        lines |= {f"against {rule_text(rule)}" for rule in every_rule(mosts=range(6), ks=range(10))}
        several = sorted(lines)
        for step in range(3000):
            line = list(draw.choice(several))
            line[draw.randrange(len(line))] = draw.choice("0123 \nabdkorstuw")
            line = "".join(line)
            if line not in lines:
                self.refused(desk, line)


class AgainstTheModulesTests(DeskCase):
    def answer(self, rule, n, row, line):
        """What the other modules' functions tell of what was done."""
        room = ran(rule, n, row)[0]
        if line == "room":
            told = [room_text(room)]
        elif line == "done":
            told = [deed_text(deed) for deed in row]
        elif line == "may":
            told = [str(len(may_do(n, room)))]
        elif line == "pages":
            told = [" ".join(str(part) for part in entry) for entry in pages(rule, n, row)]
        elif line == "waits":
            told = [" ".join("still" if part is None else str(part) for part in entry) for entry in waited(rule, n, row)]
        else:
            told = [" ".join("-" if part is None else str(part) for part in told_most(rule, n))]
        return ", ".join(told) or "-"

    def test_long_talks(self):
        draw = random.Random(261)
        asks = ("room", "done", "may", "pages", "waits", "fair")
        noes = 0
        for rule, n in itertools.product(every_rule(ks=(0, 2)), (1, 3, 5)):
            desk, row, room = Desk(rule, n), (), empty_room(n)
            for step in range(60):
                kind = draw.randrange(10)
                if kind == 0:
                    self.says(desk, ("back", "ok" if row else "none"))
                    row = row[:-1]
                    room = ran(rule, n, row)[0]
                elif kind == 1:
                    line = draw.choice(asks)
                    self.says(desk, (line, self.answer(rule, n, row, line)))
                else:
                    deeds = deeds_of(n, lefts=(None, 0, 2))
                    able = [deed for deed in deeds if model_stepped(rule, room, deed) is not None]
                    deed = draw.choice(able if kind > 3 else deeds)
                    told = model_stepped(rule, room, deed)
                    if told is None:
                        noes += 1
                        self.says(desk, (deed_text(deed), "no"))
                    else:
                        self.says(desk, (deed_text(deed), ", ".join(event_text(event) for event in told[1]) or "-"))
                        row, room = row + (deed,), told[0]
            for line in asks:
                self.says(desk, (line, self.answer(rule, n, row, line)))
        self.assertGreater(noes, 100)

    def test_books_longest_waits_and_rules_held(self):
        for rule, n in ((("passes", 2, 1, 1), 3), (("turns", 0, 0, 0), 4), (("writers", 1, 0, 0), 4), (READERS, 5)):
            desk, deeds = Desk(rule, n), all_deeds(n)
            try:
                rooms = str(len(book(rule, n, deeds)))
            except TooMany:
                rooms = "many"
            self.says(desk, ("book", rooms))
            for guest in (0, n - 1):
                if rooms == "many":
                    self.says(desk, (f"longest {guest}", "many"))
                else:
                    told = longest(rule, n, deeds, guest)
                    self.says(desk, (f"longest {guest}", str(told[1]) if told[0] == "within" else "starves"))
            other = ("passes", 2, 3, 1)
            word, told = held(rule, other, n, deeds)
            self.assertEqual(word, "parts")
            self.says(desk, ("against passes 3 most 2 ups", "parts " + ", ".join(deed_text(deed) for deed in told)))

    def test_desks_keep_apart(self):
        first, second = Desk(ROWS, 2), Desk(ROWS, 2)
        self.says(first, ("0 reads", "0 in"))
        self.says(second, ("room", "out out"), ("back", "none"), ("0 writes", "0 in"))
        self.says(first, ("room", "reads out"), ("done", "0 reads"))

    def test_what_is_handed_in_is_not_changed(self):
        rule = ("passes", 2, 3, 1)
        before = copy.deepcopy(rule)
        desk = Desk(rule, 3)
        for line in ("0 reads", "1 writes 3", "2 reads", "tick", "back", "room", "book", "against rows", "longest 0"):
            desk.say(line)
        self.assertEqual(rule, before)

    def test_a_long_row(self):
        desk = Desk(ROWS, 2)
        for step in range(300):
            self.says(desk, ("0 writes", "0 in"), ("0 leaves", "0 out"))
        self.assertEqual(len(desk.say("done").split(", ")), 600)
        self.assertTrue(desk.say("pages").endswith("0 write 299"))
        for step in range(600):
            self.says(desk, ("back", "ok"))
        self.says(desk, ("back", "none"), ("pages", "-"))


if __name__ == "__main__":
    unittest.main()
