"""Rows that starve a guest: point 18, and (c) of point 3."""

import copy
import itertools
import random
import unittest

from model import deeds_of, every_rule, model_stepped
from oddthings import Alike, Thorny, nested, nested_dict, odd_things, with_part

from manyreaders.fair import told_most
from manyreaders.rooms import empty, waiting
from manyreaders.runs import ran, waited
from manyreaders.starving import shows_starving, starving

ROWS = ("rows", 0, 0, 0)
READERS = ("readers", 0, 0, 0)
WRITERS = ("writers", 0, 0, 0)
AHEAD = (("read", 1, None), ("write", 0, None))
AGAIN = (("read", 2, None), ("leave", 2))
SOME = ("starves", 0, AHEAD, AGAIN)


def unfair():
    """Rules and numbers of guests that aren't fair."""
    rules = every_rule(mosts=(0, 1, 2, 3, 4, 5))
    return [(rule, n) for rule, n in itertools.product(rules, range(3, 6)) if rule[0] in ("readers", "writers")]


def fair():
    return [(rule, n) for rule, n in itertools.product(every_rule(), range(1, 6)) if None not in told_most(rule, n)]


def model_starves(rule, n, guest, ahead, again):
    """What the document asks of rows of deeds of n guests."""
    room, entered = empty(n), 0
    for at, deed in enumerate(ahead + again):
        if at == len(ahead):
            start = room
        told = model_stepped(rule, room, deed)
        if told is None:
            return False
        room = told[0]
        if at >= len(ahead):
            if all(entry[0] != guest for entry in room[1]):
                return False
            entered += sum(1 for word, who in told[1] if word == "in" and who != guest)
    return entered > 0 and room == start and any(entry[0] == guest for entry in start[1])


class StarvingTests(unittest.TestCase):
    def test_of_fair_rules(self):
        for rule, n in fair():
            told = starving(rule, n)
            self.assertEqual(told, ("never",) + told_most(rule, n))
            self.assertIs(type(told), tuple)
            self.assertIs(shows_starving(rule, n, told), True)

    def test_fair_and_unfair_ones(self):
        self.assertEqual(starving(READERS, 2), ("never", 0, 0))
        self.assertEqual(starving(WRITERS, 1), ("never", 0, 0))
        self.assertEqual(starving(("turns", 1, 0, 0), 4), ("never", 3, 5))
        self.assertEqual(starving(("passes", 0, 9, 0), 3), ("never", 1, 10))
        self.assertEqual(len(unfair()), 72)

    def test_of_the_others_it_is_walked(self):
        for rule, n in unfair():
            word, guest, ahead, again = starving(rule, n)
            self.assertEqual(word, "starves")
            room = ran(rule, n, ahead)[0]
            want = waiting(room, guest)
            self.assertEqual(want, "write" if rule[0] == "readers" else "read")
            for many in range(len(again) + 1):
                self.assertEqual(waiting(ran(rule, n, ahead + again[:many])[0], guest), want)
            behind, brought = ran(rule, n, ahead + again)
            self.assertEqual(behind, room)
            events = [event for events in brought[len(ahead):] for event in events]
            self.assertTrue([who for word, who in events if word == "in" and who != guest])
            self.assertIs(shows_starving(rule, n, (word, guest, ahead, again)), True)

    def test_walked_again_and_again_it_starves_one(self):
        for rule, n in unfair():
            word, guest, ahead, again = starving(rule, n)
            row = ahead + again * 20
            told = [entry for entry in waited(rule, n, row) if entry[0] == guest]
            self.assertEqual(len(told), 1)
            self.assertGreaterEqual(told[0][2], 20)
            self.assertIsNone(told[0][3])

    def test_asked_again_the_same_is_told(self):
        for rule, n in fair() + unfair():
            self.assertEqual(starving(rule, n), starving(rule, n))


class ShowsTests(unittest.TestCase):
    def told(self, rule, n, thing, expected):
        self.assertIs(shows_starving(rule, n, thing), expected)
        self.assertIs(shows_starving(rule, n, thing), expected)


class RingTests(ShowsTests):
    def test_another_row_than_the_told_one(self):
        for n in range(3, 6):
            self.told(READERS, n, SOME, True)
            self.told(("readers", 2, 0, 1), n, SOME, True)
            # By most 1 guest 2 has to wait itself, and can't leave.
            self.told(("readers", 1, 0, 0), n, SOME, False)
        again = (("write", 2, None), ("leave", 1), ("write", 1, None), ("leave", 2))
        self.told(WRITERS, 3, ("starves", 0, (("write", 1, None), ("read", 0, None)), again), True)

    def test_longer_ones(self):
        self.told(READERS, 3, ("starves", 0, AHEAD + AGAIN * 3, AGAIN * 5), True)
        self.told(READERS, 3, ("starves", 0, (("tick",),) * 300 + AHEAD, AGAIN * 300), True)
        self.told(READERS, 3, ("starves", 0, AHEAD, (("tick",), ("read", 2, 0), ("up", 1), ("leave", 2), ("tick",))), True)

    def test_an_empty_ahead(self):
        self.told(READERS, 3, ("starves", 0, (), AGAIN), False)
        self.told(READERS, 3, ("starves", 0, (), AHEAD + AGAIN), False)
        self.told(READERS, 3, ("starves", 2, (), AGAIN), False)
        self.told(READERS, 3, ("starves", 0, (), ()), False)

    def test_an_empty_again(self):
        self.told(READERS, 3, ("starves", 0, AHEAD, ()), False)
        self.told(ROWS, 3, ("starves", 0, AHEAD, ()), False)

    def test_nobody_else_goes_in(self):
        self.told(READERS, 3, ("starves", 0, AHEAD, (("tick",),)), False)
        self.told(READERS, 3, ("starves", 0, AHEAD, (("up", 1),)), False)
        self.told(READERS, 3, ("starves", 0, AHEAD, (("write", 2, None), ("stop", 2))), False)
        self.told(READERS, 3, ("starves", 0, AHEAD, (("write", 2, 0),)), False)

    def test_it_does_not_lead_back(self):
        self.told(READERS, 3, ("starves", 0, AHEAD, (("read", 2, None),)), False)
        self.told(READERS, 3, ("starves", 0, AHEAD, AGAIN + (("read", 2, None),)), False)
        ahead = (("read", 1, None), ("write", 0, 9))
        self.told(READERS, 3, ("starves", 0, ahead, AGAIN), True)
        self.told(READERS, 3, ("starves", 0, ahead, AGAIN + (("tick",),)), False)
        self.told(("passes", 0, 9, 0), 3, SOME, False)

    def test_the_guest_does_not_wait_behind_ahead(self):
        self.told(READERS, 3, ("starves", 0, AHEAD[:1], AGAIN), False)
        self.told(READERS, 3, ("starves", 1, AHEAD, AGAIN), False)
        self.told(READERS, 3, ("starves", 2, AHEAD, AGAIN), False)

    def test_the_guest_does_not_wait_all_along(self):
        stops = (("read", 2, None), ("stop", 0), ("leave", 2), ("write", 0, None))
        self.told(READERS, 3, ("starves", 0, AHEAD, stops), False)
        goes_in = (("leave", 1), ("leave", 0), ("read", 1, None), ("write", 0, None))
        self.told(READERS, 3, ("starves", 0, AHEAD, goes_in), False)
        self.told(ROWS, 3, ("starves", 0, AHEAD, goes_in), False)

    def test_deeds_that_can_not_be_done_there(self):
        self.told(READERS, 3, ("starves", 0, (("leave", 1),) + AHEAD, AGAIN), False)
        self.told(READERS, 3, ("starves", 0, AHEAD + (("leave", 2),), AGAIN), False)
        for place in range(len(AGAIN) + 1):
            for deed in (("down", 1), ("leave", 0), ("write", 0, None), ("stop", 1)):
                self.told(READERS, 3, ("starves", 0, AHEAD, AGAIN[:place] + (deed,) + AGAIN[place:]), False)

    def test_of_a_fair_rule_there_is_none(self):
        for rule in every_rule():
            if rule[0] not in ("readers", "writers"):
                for other in (READERS, WRITERS, ("readers", 1, 0, 0)):
                    self.told(rule, 3, starving(other, 3), False)
        for rule, n in unfair():
            self.told(ROWS, n, starving(rule, n), False)

    def test_of_the_other_unfair_rule_there_is_none(self):
        self.told(READERS, 3, starving(WRITERS, 3), False)
        self.told(WRITERS, 3, starving(READERS, 3), False)

    def test_one_that_rises_is_not_starved(self):
        rule = ("readers", 0, 0, 1)
        ahead = (("read", 0, None), ("read", 1, None), ("up", 0))
        for again in ((("tick",),), (("up", 1),), (("read", 2, None), ("stop", 2)), (("read", 2, 0),)):
            self.told(rule, 3, ("starves", 0, ahead, again), False)

    def test_as_the_document_asks_of_some_rows(self):
        draw = random.Random(18)
        answers = []
        for step in range(3000):
            rule = draw.choice(((READERS, WRITERS, ("readers", 1, 0, 1), ("writers", 1, 0, 1))))
            word, guest, ahead, again = starving(rule, 3)
            row = list(ahead + again)
            for change in range(draw.randrange(3)):
                row.insert(draw.randrange(len(row) + 1), draw.choice(deeds_of(3, lefts=(None, 0))))
            cut = draw.randrange(1, 4)
            thing = ("starves", draw.choice((0, 0, 0, 1)), tuple(row[:cut]), tuple(row[cut:]))
            answers.append(model_starves(rule, 3, thing[1], thing[2], thing[3]))
            self.told(rule, 3, thing, answers[-1])
        self.assertGreater(answers.count(True), 50)
        self.assertGreater(answers.count(False), 50)


class NeverTests(ShowsTests):
    def test_with_other_numbers(self):
        for rule, n in fair():
            reads, writes = told_most(rule, n)
            self.told(rule, n, ("never", reads, writes), True)
            for one, other in itertools.product((-1, 0, 1), repeat=2):
                if (one, other) != (0, 0):
                    self.told(rule, n, ("never", reads + one, writes + other), False)

    def test_of_a_rule_that_is_not_fair(self):
        for rule, n in unfair():
            reads, writes = told_most(rule, n)
            self.told(rule, n, ("never", reads, writes), False)
            for number in (0, 1, n - 2, 9, 1000):
                self.told(rule, n, ("never", number, number), False)
                self.told(rule, n, ("never", reads, number), False)
                self.told(rule, n, ("never", number, writes), False)
            self.told(rule, n, ("never", None, None), False)
            self.told(rule, n, ("never",), False)

    def test_truths_in_place_of_numbers(self):
        self.told(ROWS, 3, ("never", 1, 1), True)
        self.told(ROWS, 3, ("never", True, 1), False)
        self.told(ROWS, 3, ("never", 1, True), False)
        self.told(ROWS, 2, ("never", False, 0), False)
        self.told(ROWS, 2, ("never", 0, False), False)
        self.told(ROWS, 3, ("never", 1.0, 1), False)
        self.told(ROWS, 3, ("never", 1, "1"), False)

    def test_other_forms(self):
        self.told(ROWS, 3, ["never", 1, 1], False)
        self.told(ROWS, 3, ("never", (1, 1)), False)
        self.told(ROWS, 3, ("never", 1), False)
        self.told(ROWS, 3, ("never", 1, 1, 1), False)
        self.told(ROWS, 3, ("Never", 1, 1), False)
        self.told(ROWS, 3, (b"never", 1, 1), False)
        self.told(ROWS, 3, ("starves", 1, 1), False)
        self.told(ROWS, 3, "never", False)


class AnythingTests(ShowsTests):
    def test_of_anything(self):
        for rule, n in ((READERS, 3), (ROWS, 3), (ROWS, 1)):
            for thing in odd_things() + [None, 0, "starves", b"never", {"starves": 0}, {"never", 0}]:
                self.told(rule, n, thing, False)

    def test_of_anything_as_a_part(self):
        self.told(READERS, 3, SOME, True)
        for place, thing in itertools.product(range(4), odd_things() + [None]):
            self.told(READERS, 3, with_part(SOME, place, thing), False)
        for place, thing in itertools.product(range(3), odd_things() + [None]):
            self.told(ROWS, 3, with_part(("never", 1, 1), place, thing), False)

    def test_of_anything_as_a_deed(self):
        for thing in odd_things() + [None, 0, "tick", ["tick"], ("tick", 0), ("read", 3, None), ("read", 2, 10)]:
            for place in range(3):
                self.told(READERS, 3, ("starves", 0, AHEAD[:place] + (thing,) + AHEAD[place:], AGAIN), False)
                self.told(READERS, 3, ("starves", 0, AHEAD, AGAIN[:place] + (thing,) + AGAIN[place:]), False)

    def test_of_anything_as_a_part_of_a_deed(self):
        for place, thing in itertools.product(range(3), odd_things()):
            deed = with_part(("read", 1, None), place, thing)
            self.told(READERS, 3, ("starves", 0, (deed,) + AHEAD[1:], AGAIN), False)

    def test_guests_that_are_none(self):
        for guest in (-3, -1, 3, 4, None, True, False, "0", 0.0, (0,)):
            self.told(READERS, 3, with_part(SOME, 1, guest), False)

    def test_lists_in_place_of_tuples_at_each_depth(self):
        self.told(READERS, 3, list(SOME), False)
        self.told(READERS, 3, ("starves", 0, list(AHEAD), AGAIN), False)
        self.told(READERS, 3, ("starves", 0, AHEAD, list(AGAIN)), False)
        self.told(READERS, 3, ("starves", 0, [], []), False)
        self.told(READERS, 3, ("starves", 0, (list(AHEAD[0]), AHEAD[1]), AGAIN), False)
        self.told(READERS, 3, ("starves", 0, AHEAD, (AGAIN[0], list(AGAIN[1]))), False)

    def test_too_short_or_too_long(self):
        for many in range(4):
            self.told(READERS, 3, SOME[:many], False)
        self.told(READERS, 3, SOME + ((),), False)
        self.told(READERS, 3, (SOME,), False)

    def test_other_words(self):
        for word in ("", "starve", "Starves", "starves ", "never", "within", b"starves", None):
            self.told(READERS, 3, with_part(SOME, 0, word), False)

    def test_sixty_deep(self):
        for thing in (nested(58), nested(58, list), nested_dict(58)):
            self.told(READERS, 3, ("starves", 0, AHEAD, thing), False)
            self.told(READERS, 3, ("starves", 0, (thing,), AGAIN), False)
            self.told(READERS, 3, ("never", thing, thing), False)

    def test_what_answers_as_it_likes(self):
        for thing in (Alike(), Thorny()):
            self.told(READERS, 3, (thing, thing, thing, thing), False)
            self.told(ROWS, 3, (thing, thing, thing), False)
            self.told(ROWS, 3, ("never", thing, thing), False)

    def test_what_is_handed_in_is_not_changed(self):
        thing = ["starves", 0, [list(deed) for deed in AHEAD], [list(deed) for deed in AGAIN]]
        before = copy.deepcopy(thing)
        self.told(READERS, 3, thing, False)
        self.told(READERS, 3, tuple(thing), False)
        self.told(READERS, 3, ("starves", 0, tuple(thing[2]), tuple(thing[3])), False)
        self.assertEqual(thing, before)


if __name__ == "__main__":
    unittest.main()
