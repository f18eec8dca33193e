"""The texts of rules, deeds, rows, events and rooms: point 25."""

import copy
import itertools
import random
import unittest

from model import deeds_of, every_rule, model_stepped, walk

from manyreaders.deeds import all_deeds, stepped
from manyreaders.rooms import empty
from manyreaders.showing import deed_text, event_text, room_text, row_text, rule_text


class RuleTests(unittest.TestCase):
    def told(self, rule, text):
        self.assertEqual(rule_text(rule), text)
        self.assertEqual(rule_text(rule), text)

    def test_the_document_own(self):
        self.told(("passes", 2, 3, 1), "passes 3 most 2 ups")

    def test_words_alone(self):
        for word in ("rows", "readers", "writers", "turns"):
            self.told((word, 0, 0, 0), word)

    def test_k_of_passes_is_always_written(self):
        for k in range(10):
            self.told(("passes", 0, k, 0), "passes " + "0123456789"[k])
        self.told(("passes", 5, 0, 0), "passes 0 most 5")
        self.told(("passes", 0, 9, 1), "passes 9 ups")

    def test_most_and_ups(self):
        self.told(("rows", 1, 0, 0), "rows most 1")
        self.told(("readers", 5, 0, 0), "readers most 5")
        self.told(("turns", 0, 0, 1), "turns ups")
        self.told(("writers", 3, 0, 1), "writers most 3 ups")

    def test_unlike_rules_have_unlike_texts(self):
        rules = every_rule(mosts=range(6), ks=range(10))
        self.assertEqual(len(rules), 168)
        self.assertEqual(len({rule_text(rule) for rule in rules}), 168)


class DeedTests(unittest.TestCase):
    def told(self, deed, text):
        self.assertEqual(deed_text(deed), text)
        self.assertEqual(deed_text(deed), text)

    def test_the_document_own(self):
        self.told(("read", 0, None), "0 reads")
        self.told(("write", 1, 3), "1 writes 3")
        self.told(("up", 2), "2 up")
        self.told(("down", 2), "2 down")
        self.told(("leave", 2), "2 leaves")
        self.told(("stop", 2), "2 stops")
        self.told(("tick",), "tick")

    def test_lefts(self):
        for left in range(10):
            self.told(("read", 4, left), "4 reads " + "0123456789"[left])
            self.told(("write", 0, left), "0 writes " + "0123456789"[left])
        self.told(("write", 3, None), "3 writes")

    def test_unlike_deeds_have_unlike_texts(self):
        deeds = deeds_of(5, lefts=(None,) + tuple(range(10)))
        self.assertEqual(len({deed_text(deed) for deed in deeds}), len(deeds))


class RowTests(unittest.TestCase):
    def test_no_deeds(self):
        self.assertEqual(row_text(()), "")

    def test_one_and_several(self):
        self.assertEqual(row_text((("tick",),)), "tick")
        row = (("read", 0, None), ("write", 1, 0), ("tick",), ("leave", 0))
        self.assertEqual(row_text(row), "0 reads\n1 writes 0\ntick\n0 leaves")

    def test_each_line_is_a_deed_text(self):
        draw = random.Random(25)
        for rule in every_rule(ks=(1,)):
            row = walk(rule, 4, 30, draw.choice)
            before = copy.deepcopy(row)
            self.assertEqual(row_text(row).split("\n"), [deed_text(deed) for deed in row])
            self.assertEqual(row, before)

    def test_many_deeds(self):
        self.assertEqual(row_text((("tick",),) * 400), "\n".join(["tick"] * 400))


class EventTests(unittest.TestCase):
    def test_each_word(self):
        for word in ("in", "waits", "no", "steps", "down", "out", "ends"):
            for guest in range(5):
                self.assertEqual(event_text((word, guest)), "01234"[guest] + " " + word)

    def test_of_what_deeds_bring(self):
        words = set()
        for rule in every_rule(mosts=(0, 1), ks=(1,)):
            room = empty(3)
            draw = random.Random(251)
            for deed in walk(rule, 3, 60, draw.choice):
                room, events = stepped(rule, 3, room, deed)
                for event in events:
                    words.add(event_text(event).split(" ")[1])
        self.assertEqual(words, {"in", "waits", "no", "steps", "down", "out", "ends"})


class RoomTests(unittest.TestCase):
    def told(self, room, text):
        self.assertEqual(room_text(room), text)
        self.assertEqual(room_text(room), text)

    def test_the_document_own(self):
        room = (("reads", "out", "out"), ((1, "write", 2, None), (2, "read", 0, 3)))
        self.told(room, "reads out out, 1 write 2 -, 2 read 0 3")

    def test_nobody_waits(self):
        for n in range(1, 6):
            self.told(empty(n), " ".join(["out"] * n))
        self.told((("reads", "rising", "writes", "raised", "out"), ()), "reads rising writes raised out")

    def test_marks_and_lefts(self):
        for mark in (0, 1, 9, 10, 99, 100, 999):
            self.told((("out",), ((0, "read", mark, None),)), "out, 0 read " + str(mark) + " -")
        for left in range(1, 10):
            self.told((("out",), ((0, "write", 0, left),)), "out, 0 write 0 " + str(left))

    def test_the_order_of_waits(self):
        room = (("out",) * 3, ((2, "read", 0, None), (0, "write", 1, 1), (1, "read", 0, 9)))
        self.told(room, "out out out, 2 read 0 -, 0 write 1 1, 1 read 0 9")

    def test_what_is_handed_in_is_not_changed(self):
        room = model_stepped(("rows", 0, 0, 0), (("writes", "out"), ()), ("read", 1, 3))[0]
        before = copy.deepcopy(room)
        self.told(room, "writes out, 1 read 0 3")
        self.assertEqual(room, before)


class KindTests(unittest.TestCase):
    def test_all_tell_texts(self):
        for rule, n in itertools.product(every_rule(ks=(1,)), (1, 5)):
            self.assertIs(type(rule_text(rule)), str)
            self.assertIs(type(row_text(all_deeds(n))), str)
            self.assertIs(type(room_text(empty(n))), str)


if __name__ == "__main__":
    unittest.main()
