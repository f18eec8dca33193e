"""Rules, rooms and rows read from texts: point 25, and (h) of point 3."""

import copy
import itertools
import random
import re
import unittest

from model import deeds_of, every_room, every_rule, model_book, walk
from oddthings import odd_things

from manyreaders.deeds import all_deeds
from manyreaders.errors import GuestError, NoText
from manyreaders.reading import read_room, read_row, read_rule
from manyreaders.rooms import is_room
from manyreaders.showing import deed_text, room_text, row_text, rule_text

RULE = re.compile(r"(rows|readers|writers|turns|passes ([0-9]))( most ([1-5]))?( ups)?")
WITHIN = r"(?:out|reads|rising|writes|raised)"
WAIT = r", [0-9] (?:read|write) (?:0|[1-9][0-9]{0,2}) (?:-|[1-9])"
ROOM = re.compile(f"({WITHIN}(?: {WITHIN}){{0,4}})((?:{WAIT})*)")
# Blanks and line ends that aren't the one blank, and figures that aren't 0 to 9.
OTHER_BLANKS = ("\t", "\n", "\r", "\r\n", "\v", "\f", "\x1c", "\x85", "\xa0", "\u2003", "\u2028", "\u3000", "\ufeff", "\0")
OTHER_FIGURES = ("\u0661", "\u0967", "\uff11", "\u00b9", "\u00bd", "\u4e00", "\U0001d7cf", "I", "l", "a", "+1", "-1", "1.0")


def model_rule(text):
    found = RULE.fullmatch(text)
    if found is None:
        return None
    word, k, most, ups = found.group(1), found.group(2), found.group(4), found.group(5)
    return (word.split(" ")[0], int(most or 0), int(k or 0), 1 if ups else 0)


def model_room(text):
    found = ROOM.fullmatch(text)
    if found is None:
        return None
    within = tuple(found.group(1).split(" "))
    waits = []
    for entry in found.group(2).split(", ")[1:]:
        guest, want, mark, left = entry.split(" ")
        if int(guest) >= len(within) or within[int(guest)] != "out" or int(guest) in [told[0] for told in waits]:
            return None
        waits.append((int(guest), want, int(mark), None if left == "-" else int(left)))
    return (within, tuple(waits))


def model_line(n, line):
    figure = "[" + "0123456789"[:n] + "]"
    return re.fullmatch(f"tick|{figure} (up|down|leaves|stops)|{figure} (reads|writes)( [0-9])?", line) is not None


def spoilt(text, draw):
    """The text with one to three signs left out, put in, or in another's place."""
    signs = list(text)
    for change in range(draw.randrange(1, 4)):
        place, kind = draw.randrange(len(signs) + 1), draw.randrange(3)
        if kind == 0 and place < len(signs):
            del signs[place]
        elif kind == 1 or place == len(signs):
            signs.insert(place, draw.choice(" ,-0123456789\nreadoutswk"))
        else:
            signs[place] = draw.choice(" ,-0123456789\nreadoutswk")
    return "".join(signs)


def by_words(text, draw):
    """The text with a word left out, twice, or in another's place."""
    words = text.split(" ")
    place, kind = draw.randrange(len(words)), draw.randrange(3)
    if kind == 0:
        del words[place]
    elif kind == 1:
        words.insert(place, words[place])
    else:
        other = draw.randrange(len(words))
        words[place], words[other] = words[other], words[place]
    return " ".join(words)


class Texty:
    """Shows itself as a text."""

    def __str__(self):
        return "rows"

    def split(self, sign):
        return ["out"]


def no_texts():
    return [thing for thing in odd_things() if not isinstance(thing, str)] + [
        None, 0, 1, b"rows", b"out", b"tick", bytearray(b"tick"), ["rows"], ("out",), ("rows", 0, 0, 0),
        (("out",), ()), [("tick",)], (("tick",),), {"tick": 0}, {"rows"}, Texty(),
    ]


class ReadingCase(unittest.TestCase):
    def refused(self, row, ask, *given):
        for again in range(2):
            with self.assertRaises(NoText, msg=given) as caught:
                ask(*given)
            self.assertEqual(caught.exception.row, row, given)
            self.assertIs(type(caught.exception.row), type(row))


class RuleTests(ReadingCase):
    def test_what_is_written_is_read_again(self):
        for rule in every_rule(mosts=range(6), ks=range(10)):
            told = read_rule(rule_text(rule))
            self.assertEqual(told, rule)
            self.assertEqual([type(part) for part in told], [str, int, int, int])

    def test_some(self):
        self.assertEqual(read_rule("passes 3 most 2 ups"), ("passes", 2, 3, 1))
        self.assertEqual(read_rule("passes 0"), ("passes", 0, 0, 0))
        self.assertEqual(read_rule("rows"), ("rows", 0, 0, 0))
        self.assertEqual(read_rule("turns most 5"), ("turns", 5, 0, 0))

    def test_what_is_no_text(self):
        for thing in no_texts():
            self.refused(None, read_rule, thing)

    def test_words_too_few_or_too_many(self):
        for text in (
            "", "passes", "passes ups", "passes most 2", "rows 0", "rows 3", "rows most", "rows most ups", "most 2", "ups",
            "3", "passes 3 3", "rows rows", "rows ups ups", "rows most 2 most 2", "rows most 2 2", "rows ups most 2",
            "passes most 2 3", "passes 3 ups most 2", "ups rows", "rows readers", "rows most 2 ups x", "rows no",
        ):
            self.refused(None, read_rule, text)

    def test_numbers_out_of_bounds_or_written_otherwise(self):
        for text in (
            "rows most 0", "rows most 6", "rows most 9", "rows most 10", "rows most 02", "rows most -1", "rows most +1",
            "passes 10", "passes 00", "passes 03", "passes -1", "passes +1", "passes 1.0", "passes 0x1", "passes 1_0",
            "passes -", "passes k", "rows most M", "passes 3 most 0 ups", "passes 3most 2", "passes3",
        ):
            self.refused(None, read_rule, text)

    def test_other_figures(self):
        for figure in OTHER_FIGURES:
            self.refused(None, read_rule, "passes " + figure)
            self.refused(None, read_rule, "rows most " + figure)

    def test_capital_letters(self):
        for text in ("Rows", "ROWS", "rows Most 2", "rows UPS", "Passes 3"):
            self.refused(None, read_rule, text)

    def test_blanks(self):
        for text in ("passes 3 most 2 ups", "rows", "turns ups"):
            for place in range(len(text) + 1):
                self.refused(None, read_rule, text[:place] + " " + text[place:])
            for blank in OTHER_BLANKS:
                self.refused(None, read_rule, text + blank)
                self.refused(None, read_rule, blank + text)
                if " " in text:
                    self.refused(None, read_rule, text.replace(" ", blank, 1))

    def test_texts_of_other_things(self):
        for text in ("0 reads", "tick", "out", "out out", "0 in", "room", "read", "('rows', 0, 0, 0)"):
            self.refused(None, read_rule, text)

    def test_spoilt_ones(self):
        draw = random.Random(25)
        good = 0
        for rule in every_rule(mosts=range(6), ks=range(10)):
            for spoil in (spoilt, by_words):
                text = spoil(rule_text(rule), draw)
                if model_rule(text) is None:
                    self.refused(None, read_rule, text)
                else:
                    good += 1
                    self.assertEqual(read_rule(text), model_rule(text))
        self.assertGreater(good, 10)


class RoomTests(ReadingCase):
    def test_what_is_written_is_read_again(self):
        for n, lefts in ((1, (None, 1, 9)), (2, (None, 5)), (3, (None,))):
            for room in every_room(n, marks=(0, 10, 999) if n < 3 else (0,), lefts=lefts):
                self.assertEqual(read_room(room_text(room)), room)

    def test_rooms_to_which_deeds_lead(self):
        for rule in every_rule(mosts=(0, 2), ks=(1,)):
            for room in model_book(rule, 2, tuple(deeds_of(2))):
                self.assertEqual(read_room(room_text(room)), room)

    def test_drawn_ones_of_five_guests(self):
        draw = random.Random(251)
        for step in range(300):
            within = tuple(draw.choice(("out", "out", "reads", "rising", "writes", "raised")) for guest in range(5))
            outs = [guest for guest in range(5) if within[guest] == "out"]
            guests = draw.sample(outs, draw.randrange(len(outs) + 1))
            waits = tuple(
                (guest, draw.choice(("read", "write")), draw.choice((0, 9, 10, 99, 100, 999)), draw.choice((None, 1, 9)))
                for guest in guests
            )
            self.assertEqual(read_room(room_text((within, waits))), (within, waits))

    def test_some(self):
        room = (("reads", "out", "out"), ((1, "write", 2, None), (2, "read", 0, 3)))
        self.assertEqual(read_room("reads out out, 1 write 2 -, 2 read 0 3"), room)
        self.assertEqual(read_room("out"), (("out",), ()))
        told = read_room("out, 0 read 999 9")
        self.assertEqual(told, (("out",), ((0, "read", 999, 9),)))
        self.assertEqual([type(part) for part in told[1][0]], [int, str, int, int])

    def test_what_is_no_text(self):
        for thing in no_texts():
            self.refused(None, read_room, thing)

    def test_words_too_few_or_too_many(self):
        for text in (
            "", ", 0 read 0 -", "out out out out out out", "out, ", "out,", "out, 0", "out, 0 read", "out, 0 read 0",
            "out, 0 read 0 - -", "out, 0 0 read 0 -", "out, 0 read 0 -,", "out, 0 read 0 -, ", "out, 0 read 0 - 0 read 0 -",
            "0 read 0 -", "out 0 read 0 -", "out, out", "out, , 0 read 0 -", "out,0 read 0 -", "out ,0 read 0 -",
            "out , 0 read 0 -", "out; 0 read 0 -", "out,  0 read 0 -", "out, 0, read 0 -",
        ):
            self.refused(None, read_room, text)

    def test_words_that_are_none(self):
        for text in (
            "in", "Out", "OUT", "outs", "read", "writing", "up", "-", "None", "out, 0 reads 0 -", "out, 0 Read 0 -",
            "out, 0 up 0 -", "out, 0 - 0 -", "out, 0 read 0 None", "out, 0 read 0 --",
        ):
            self.refused(None, read_room, text)

    def test_guests(self):
        for text in (
            "out, 1 read 0 -", "out out, 2 read 0 -", "out, 9 read 0 -", "out, 10 read 0 -", "out, 00 read 0 -",
            "out, -1 read 0 -", "out, +0 read 0 -", "out, - read 0 -", "out out, 01 read 0 -",
            "reads, 0 read 0 -", "out writes, 1 read 0 -", "rising out, 0 write 0 -", "raised, 0 read 0 -",
            "out, 0 read 0 -, 0 read 0 -", "out out, 1 read 0 -, 0 read 0 -, 1 write 0 -",
        ):
            self.refused(None, read_room, text)

    def test_marks(self):
        for mark in ("00", "01", "000", "007", "010", "1000", "0999", "9999", "-1", "-", "+1", "1.0", "", "a", "1_0", "0x1"):
            self.refused(None, read_room, f"out, 0 read {mark} -")
        for mark in (0, 9, 10, 99, 100, 101, 999):
            self.assertEqual(read_room(f"out, 0 read {mark} -"), (("out",), ((0, "read", mark, None),)))

    def test_lefts(self):
        for left in ("0", "10", "01", "00", "-1", "+1", "", "a", "9 ", "None", "--"):
            self.refused(None, read_room, f"out, 0 read 0 {left}")
        for left in range(1, 10):
            self.assertEqual(read_room(f"out, 0 read 0 {left}"), (("out",), ((0, "read", 0, left),)))

    def test_other_figures(self):
        for figure in OTHER_FIGURES:
            self.refused(None, read_room, f"out out, {figure} read 0 -")
            self.refused(None, read_room, f"out out, 1 read {figure} -")
            self.refused(None, read_room, f"out out, 1 read 1{figure} -")
            self.refused(None, read_room, f"out out, 1 read 0 {figure}")

    def test_blanks(self):
        for text in ("out", "reads out out, 1 write 2 -, 2 read 0 3"):
            for place in range(len(text) + 1):
                self.refused(None, read_room, text[:place] + " " + text[place:])
            for blank in OTHER_BLANKS:
                self.refused(None, read_room, text + blank)
                self.refused(None, read_room, blank + text)
                for place in [place for place, sign in enumerate(text) if sign == " "]:
                    self.refused(None, read_room, text[:place] + blank + text[place + 1:])

    def test_texts_of_other_things(self):
        for text in ("rows", "tick", "0 reads", "0 out", "(('out',), ())", "-"):
            self.refused(None, read_room, text)

    def test_spoilt_ones(self):
        draw = random.Random(252)
        good = 0
        for room in every_room(2, marks=(0, 10), lefts=(None, 3)) + every_room(3, marks=(1,))[::9]:
            for spoil in (spoilt, by_words):
                text = spoil(room_text(room), draw)
                told = model_room(text)
                if told is None:
                    self.refused(None, read_room, text)
                else:
                    good += 1
                    self.assertTrue(is_room(len(told[0]), told))
                    self.assertEqual(read_room(text), told)
        self.assertGreater(good, 10)


class RowTests(ReadingCase):
    def test_what_is_written_is_read_again(self):
        draw = random.Random(253)
        for rule, n in itertools.product(every_rule(ks=(1,)), range(1, 6)):
            row = walk(rule, n, 12, draw.choice)
            self.assertEqual(read_row(n, row_text(row)), row)
        for n in range(1, 6):
            row = tuple(deeds_of(n, lefts=(None,) + tuple(range(10))))
            self.assertEqual(read_row(n, row_text(row)), row)
            self.assertEqual(read_row(n, row_text(all_deeds(n))), all_deeds(n))

    def test_no_deeds(self):
        for n in range(1, 6):
            self.assertEqual(read_row(n, ""), ())

    def test_some(self):
        row = (("read", 0, None), ("write", 1, 3), ("up", 2), ("down", 2), ("leave", 2), ("stop", 2), ("tick",))
        self.assertEqual(read_row(3, "0 reads\n1 writes 3\n2 up\n2 down\n2 leaves\n2 stops\ntick"), row)
        self.assertEqual(read_row(1, "0 reads 0"), (("read", 0, 0),))
        self.assertEqual(read_row(1, "0 writes 9"), (("write", 0, 9),))
        told = read_row(1, "0 writes 9")
        self.assertEqual([type(part) for part in (told, told[0]) + told[0]], [tuple, tuple, str, int, int])

    def test_a_row_that_could_not_be_done(self):
        self.assertEqual(read_row(1, "0 leaves\n0 leaves"), (("leave", 0), ("leave", 0)))

    def test_long_rows(self):
        for many in (400, 401, 1000):
            self.assertEqual(read_row(1, "\n".join(["tick"] * many)), (("tick",),) * many)
        self.refused(400, read_row, 1, "\n".join(["tick"] * 400 + ["tock"]))

    def test_what_is_no_text(self):
        for thing in no_texts():
            for n in (1, 5):
                self.refused(None, read_row, n, thing)

    def test_guests_beyond_n(self):
        for n in range(1, 6):
            for word in ("reads", "writes 3", "up", "down", "leaves", "stops"):
                self.assertEqual(len(read_row(n, f"{n - 1} {word}")), 1)
                self.refused(0, read_row, n, f"{n} {word}")
                self.refused(1, read_row, n, f"tick\n{n} {word}\ntick")

    def bad_lines(self):
        return [
            "", " ", "0", "reads", "0 read", "0 write", "0 leave", "0 stop", "0 ups", "0 downs", "0 ticks", "tick 0", "ticks",
            "0 tick", "tick tick", "0 reads reads", "0 0 reads", "reads 0", "0 up 1", "0 down -", "0 leaves 0", "0 stops 1",
            "0 reads 10", "0 reads -", "0 reads -1", "0 reads +1", "0 reads 01", "0 reads 00", "0 reads None", "0 reads 1 1",
            "00 reads", "01 reads", "-1 reads", "+0 reads", "-0 reads", "0 Reads", "0 READS", "Tick", "TICK", "0  reads",
            " 0 reads", "0 reads ", "tick ", " tick", "0\treads", "0 reads\t", "tick\r", "\rtick", "0\u00a0reads", "tick\v",
            "tick\x0c", "tick\x1c", "tick\x85", "tick\u2028", "\ufefftick", "0 reads, 1 reads", "0 reads,", "0reads", "0 in",
            "0 waits", "0 out", "out", "rows", "back", "room", "('tick',)", "\0", "tick\0", "\ud800",
        ] + [f"{figure} reads" for figure in OTHER_FIGURES] + [f"0 reads {figure}" for figure in OTHER_FIGURES]

    def test_lines_that_are_no_deeds(self):
        good = ["0 reads", "tick", "1 writes 3", "0 leaves"]
        for line in self.bad_lines():
            if line:
                self.refused(0, read_row, 2, line)
            for place in range(5):
                lines = good[:place] + [line] + good[place:]
                self.refused(place, read_row, 2, "\n".join(lines))

    def test_the_first_of_two(self):
        lines = self.bad_lines()
        for first, second in zip(lines, reversed(lines)):
            self.refused(0, read_row, 2, "\n".join([first, "tick", second]))
            self.refused(1, read_row, 2, "\n".join(["tick", first, second]))
            self.refused(2, read_row, 2, "\n".join(["tick", "0 reads", first, "tick", second, "tick"]))

    def test_line_feeds(self):
        self.refused(1, read_row, 1, "tick\n")
        self.refused(2, read_row, 1, "tick\ntick\n")
        self.refused(0, read_row, 1, "\ntick")
        self.refused(1, read_row, 1, "tick\n\ntick")
        self.refused(0, read_row, 1, "\n")
        self.refused(0, read_row, 1, "\n\n")
        for end in ("\r\n", "\r", "\v", "\f", "\x1c", "\x85", "\u2028", "\u2029", "\n\r"):
            self.refused(1 if end == "\n\r" else 0, read_row, 1, "tick" + end + "tick")

    def test_spoilt_ones(self):
        draw = random.Random(254)
        good = 0
        for step in range(2000):
            n = draw.randrange(1, 6)
            row = draw.sample(deeds_of(n), 3)
            text = draw.choice((spoilt, by_words))(row_text(row), draw)
            lines = text.split("\n")
            bad = [place for place, line in enumerate(lines) if not model_line(n, line)] if text else []
            if bad:
                self.refused(bad[0], read_row, n, text)
            else:
                good += 1
                self.assertEqual([deed_text(deed) for deed in read_row(n, text)], lines)
        self.assertGreater(good, 20)


class RefusalTests(ReadingCase):
    def test_it_is_a_refusal(self):
        for ask, given in ((read_rule, ("no",)), (read_room, ("no",)), (read_row, (1, "no"))):
            with self.assertRaises(GuestError):
                ask(*given)

    def test_what_is_handed_in_is_not_changed(self):
        for thing in (["rows"], [["out"]], {"tick": [0]}):
            before = copy.deepcopy(thing)
            self.refused(None, read_rule, thing)
            self.refused(None, read_room, thing)
            self.refused(None, read_row, 1, thing)
            self.assertEqual(thing, before)

    def test_asked_again_the_same_is_told(self):
        self.assertEqual(read_rule("passes 3"), read_rule("passes 3"))
        self.assertEqual(read_room("out, 0 read 0 -"), read_room("out, 0 read 0 -"))
        self.assertEqual(read_row(2, "1 reads\ntick"), read_row(2, "1 reads\ntick"))


if __name__ == "__main__":
    unittest.main()
