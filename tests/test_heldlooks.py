"""A look at two rules held against one another: point 22, and (f) of point 3."""

import copy
import itertools
import random
import unittest

from model import deeds_of, empty_room, every_room, every_rule, model_held, model_stepped
from oddthings import Alike, Thorny, nested, nested_dict, odd_things, with_part

from manyreaders.deeds import all_deeds
from manyreaders.heldlooks import shows_held
from manyreaders.holding import held

ROWS = ("rows", 0, 0, 0)
ROWS_UP = ("rows", 0, 0, 1)
READERS = ("readers", 0, 0, 0)
PASSES = ("passes", 0, 0, 0)
UP_ROW = (("read", 0, None), ("up", 0))
START = (empty_room(2), empty_room(2))
ALIKE = held(ROWS, PASSES, 2, all_deeds(2))
PARTS = ("parts", UP_ROW)


def both(room):
    return (room, room)


def model_alike(one, other, n, deeds, pairs):
    """What the document asks of a tuple of pairs of well-formed rooms."""
    if len(set(pairs)) != len(pairs) or (empty_room(n), empty_room(n)) not in pairs:
        return False
    for pair, deed in itertools.product(pairs, deeds):
        first, second = model_stepped(one, pair[0], deed), model_stepped(other, pair[1], deed)
        if (first is None) != (second is None):
            return False
        if first is not None and (first[1] != second[1] or (first[0], second[0]) not in pairs):
            return False
    return True


class LookTests(unittest.TestCase):
    def told(self, one, other, n, deeds, thing, expected):
        self.assertIs(shows_held(one, other, n, deeds, thing), expected)
        self.assertIs(shows_held(one, other, n, deeds, thing), expected)


class ToldTests(LookTests):
    def test_what_held_tells_by_all_deeds(self):
        words = set()
        for one, other in itertools.combinations_with_replacement(every_rule(mosts=(0, 2), ks=(0, 2)), 2):
            for n in (1, 2, 3):
                thing = held(one, other, n, all_deeds(n))
                words.add(thing[0])
                self.told(one, other, n, all_deeds(n), thing, True)
        self.assertEqual(words, {"alike", "parts"})

    def test_what_held_tells_by_some_deeds(self):
        draw = random.Random(22)
        rules = every_rule(ks=(0, 1, 9))
        words = []
        for step in range(120):
            n = draw.randrange(1, 6)
            deeds = deeds_of(n, lefts=(None, 0, 1, 3))
            draw.shuffle(deeds)
            deeds = tuple(deeds[:draw.randrange(12)])
            one, other = draw.choice(rules), draw.choice(rules)
            thing, many = model_held(one, other, n, deeds)
            words.append(thing[0])
            self.told(one, other, n, deeds, thing, True)
        self.assertEqual(set(words), {"alike", "parts"})

    def test_a_rule_and_itself(self):
        for rule in every_rule():
            thing = held(rule, rule, 2, all_deeds(2))
            self.told(rule, rule, 2, all_deeds(2), thing, True)
            for row in (UP_ROW, UP_ROW[:1], (("read", 0, None), ("write", 1, None))):
                self.told(rule, rule, 2, all_deeds(2), ("parts", row), False)

    def test_no_deeds_and_deeds_that_can_never_be_done(self):
        for n in range(1, 6):
            for deeds in ((), (("leave", 0),), (("up", 0), ("down", 0), ("stop", 0))):
                start = (empty_room(n), empty_room(n))
                self.told(ROWS, READERS, n, deeds, ("alike", (start,)), True)
                self.told(ROWS, READERS, n, deeds, ("alike", ()), False)
                self.told(ROWS, READERS, n, deeds, ("parts", ()), False)
                self.told(ROWS, ROWS_UP, n, deeds, ("parts", deeds[:1]), False)

    def test_never_both(self):
        for one, other in itertools.combinations(every_rule(mosts=(0, 2), ks=(0, 1)), 2):
            thing = held(one, other, 2, all_deeds(2))
            if thing[0] == "parts":
                self.told(one, other, 2, all_deeds(2), held(one, one, 2, all_deeds(2)), False)
                self.told(one, other, 2, all_deeds(2), held(other, other, 2, all_deeds(2)), False)
            else:
                self.told(one, other, 2, all_deeds(2), PARTS, False)


class AlikeTests(LookTests):
    def test_in_another_order(self):
        draw = random.Random(221)
        pairs = list(ALIKE[1])
        self.told(ROWS, PASSES, 2, all_deeds(2), ("alike", tuple(reversed(pairs))), True)
        draw.shuffle(pairs)
        self.told(ROWS, PASSES, 2, all_deeds(2), ("alike", tuple(pairs)), True)

    def test_more_pairs_than_need_be(self):
        self.told(ROWS, PASSES, 2, all_deeds(2)[:3], ALIKE, True)
        self.told(ROWS, PASSES, 2, (), ALIKE, True)
        # Rooms that aren't safe, or not settled, may stand there: no word forbids them.
        unsafe = (("writes", "writes"), ())
        unsettled = (("out", "out"), ((1, "read", 0, None),))
        for room in (unsafe, unsettled, (("raised", "out"), ())):
            self.told(ROWS, READERS, 2, (), ("alike", (START, both(room))), True)
            self.told(ROWS, READERS, 2, (), ("alike", (START, (empty_room(2), room), (room, empty_room(2)))), True)
        raised = (("raised",), ())
        pairs = held(ROWS, PASSES, 1, all_deeds(1))[1] + (both(raised),)
        self.told(ROWS, PASSES, 1, all_deeds(1), ("alike", pairs), True)

    def test_without_the_empty_ones(self):
        self.told(ROWS, PASSES, 2, (), ("alike", ()), False)
        self.told(ROWS, PASSES, 2, (), ("alike", ALIKE[1][1:]), False)
        self.told(ROWS, PASSES, 2, (), ("alike", (both(empty_room(1)),)), False)
        mixed = (("out", "reads"), ())
        self.told(ROWS, PASSES, 2, (), ("alike", ((empty_room(2), mixed), (mixed, empty_room(2)))), False)

    def test_one_left_out_or_told_twice(self):
        for place in range(len(ALIKE[1])):
            pairs = ALIKE[1][:place] + ALIKE[1][place + 1:]
            self.told(ROWS, PASSES, 2, all_deeds(2), ("alike", pairs), False)
            self.told(ROWS, PASSES, 2, all_deeds(2), ("alike", ALIKE[1] + ALIKE[1][place:place + 1]), False)
            self.told(ROWS, PASSES, 2, (), ("alike", ALIKE[1] + ALIKE[1][place:place + 1]), False)

    def test_a_deed_that_one_alone_can_do(self):
        reading = (("reads", "out"), ())
        pairs = ("alike", (START, (reading, empty_room(2))))
        self.told(ROWS, PASSES, 2, (), pairs, True)
        for deed in (("leave", 0), ("read", 0, 0), ("up", 0)):
            self.told(ROWS, PASSES, 2, (deed,), pairs, False)
            self.told(ROWS, PASSES, 2, (deed,), ("alike", (START, (empty_room(2), reading))), False)
        for deed in (("down", 0), ("stop", 0), ("tick",)):
            self.told(ROWS, PASSES, 2, (deed,), pairs, True)

    def test_a_deed_that_brings_other_events(self):
        reading = (("reads", "out"), ())
        reads_only = ("alike", (START, both(reading)))
        self.told(ROWS, ROWS_UP, 2, (("read", 0, None), ("leave", 0)), reads_only, True)
        self.told(ROWS, ROWS_UP, 2, (("read", 0, None), ("leave", 0), ("up", 0)), reads_only, False)
        self.told(ROWS, ROWS, 2, (("read", 0, None), ("leave", 0), ("up", 0)), reads_only, True)
        raised = (("raised", "out"), ())
        self.told(ROWS, ROWS_UP, 2, (("up", 0),), ("alike", (START, both(reading), (reading, raised))), False)

    def test_a_deed_that_leads_out(self):
        deeds = (("write", 0, None), ("read", 1, 2))
        thing = held(ROWS, PASSES, 2, deeds)
        self.told(ROWS, PASSES, 2, deeds, thing, True)
        self.told(ROWS, PASSES, 2, deeds + (("tick",),), thing, False)
        self.told(ROWS, PASSES, 2, deeds + (("read", 1, 0),), thing, True)

    def test_the_rules_the_other_way_round(self):
        deeds = (("read", 1, None), ("write", 0, None), ("read", 2, None))
        one, other = READERS, ("passes", 0, 9, 0)
        pairs = held(one, other, 3, deeds)[1]
        self.told(one, other, 3, deeds, ("alike", pairs), True)
        self.told(other, one, 3, deeds, ("alike", pairs), False)
        self.told(other, one, 3, deeds, ("alike", tuple((second, first) for first, second in pairs)), True)

    def test_as_the_document_asks_of_some_pairs(self):
        draw = random.Random(222)
        rooms = every_room(2, marks=(0, 1))
        answers = []
        for one, other in itertools.product(every_rule(mosts=(0, 1), ks=(0, 1)), repeat=2):
            deeds = tuple(draw.sample(deeds_of(2, lefts=(None, 0)), 3))
            told = held(one, other, 2, deeds)
            pairs = list(told[1]) if told[0] == "alike" else [START]
            for step in range(3):
                extra = [both(draw.choice(rooms)), (draw.choice(rooms), draw.choice(rooms))]
                thing = tuple(pairs + extra[:draw.randrange(3)])
                if draw.randrange(4) == 0:
                    thing = thing[:-1]
                expected = model_alike(one, other, 2, deeds, thing)
                answers.append(expected)
                self.told(one, other, 2, deeds, ("alike", thing), expected)
        self.assertGreater(answers.count(True), 40)
        self.assertGreater(answers.count(False), 40)


class PartsTests(LookTests):
    def test_rows_longer_than_need_be(self):
        deeds = all_deeds(2) + (("tick",),)
        for ahead in (
            (("tick",),), (("tick",),) * 400, (("write", 1, None), ("leave", 1)) * 5, (("read", 1, None),),
            (("read", 0, None), ("leave", 0), ("write", 0, None), ("leave", 0)),
        ):
            self.told(ROWS, ROWS_UP, 2, deeds, ("parts", ahead + UP_ROW), True)
            self.told(ROWS_UP, ROWS, 2, deeds, ("parts", ahead + UP_ROW), True)
            self.told(ROWS, ROWS, 2, deeds, ("parts", ahead + UP_ROW), False)

    def test_behind_a_tick_by_which_a_wait_ends(self):
        row = (("read", 1, None), ("write", 0, 1), ("tick",), ("write", 0, 1), ("read", 2, None))
        self.told(ROWS, READERS, 3, row[:3] + row[4:], ("parts", row), True)
        self.told(ROWS, READERS, 3, row[:2] + row[4:], ("parts", row), False)
        self.told(ROWS, READERS, 3, row[:3] + row[4:], ("parts", row[:3] + row[4:]), False)

    def test_it_goes_on_behind_the_parting(self):
        for last in all_deeds(2):
            self.told(ROWS, ROWS_UP, 2, all_deeds(2), ("parts", UP_ROW + (last,)), False)

    def test_it_does_not_part(self):
        self.told(ROWS, ROWS_UP, 2, all_deeds(2), ("parts", ()), False)
        for deed in all_deeds(2):
            self.told(ROWS, ROWS_UP, 2, all_deeds(2), ("parts", (deed,)), False)
        self.told(ROWS, ROWS_UP, 2, all_deeds(2), ("parts", UP_ROW[:1] + (("leave", 0),)), False)
        self.told(ROWS, ROWS_UP, 2, all_deeds(2), ("parts", UP_ROW[:1] + (("write", 1, None),)), False)

    def test_a_deed_that_neither_can_do(self):
        for deed in (("leave", 1), ("stop", 0), ("down", 0), ("up", 1), ("read", 0, None)):
            self.told(ROWS, ROWS_UP, 2, all_deeds(2), ("parts", UP_ROW[:1] + (deed,)), False)
            self.told(ROWS, ROWS_UP, 2, all_deeds(2), ("parts", UP_ROW[:1] + (deed,) + UP_ROW[1:]), False)
        self.told(ROWS, ROWS_UP, 2, all_deeds(2), ("parts", UP_ROW[1:]), False)
        self.told(ROWS, ROWS_UP, 2, all_deeds(2), ("parts", UP_ROW[::-1]), False)

    def test_a_deed_that_is_none_of_these(self):
        self.told(ROWS, ROWS_UP, 2, UP_ROW, PARTS, True)
        self.told(ROWS, ROWS_UP, 2, UP_ROW[:1], PARTS, False)
        self.told(ROWS, ROWS_UP, 2, UP_ROW[1:], PARTS, False)
        self.told(ROWS, ROWS_UP, 2, (), PARTS, False)
        self.told(ROWS, ROWS_UP, 2, all_deeds(2), ("parts", (("read", 0, 1), ("up", 0))), False)
        self.told(ROWS, ROWS_UP, 2, all_deeds(2), ("parts", (("tick",),) + UP_ROW), False)


class AnythingTests(LookTests):
    def test_of_anything(self):
        for thing in odd_things() + [None, 0, "alike", b"parts", {"alike": ()}, {"parts", 0}, ALIKE[1], UP_ROW]:
            for deeds in ((), all_deeds(2)):
                self.told(ROWS, ROWS_UP, 2, deeds, thing, False)

    def test_of_anything_as_a_part(self):
        for place, thing in itertools.product(range(2), odd_things() + [None]):
            self.told(ROWS, PASSES, 2, all_deeds(2), with_part(ALIKE, place, thing), False)
            self.told(ROWS, ROWS_UP, 2, all_deeds(2), with_part(PARTS, place, thing), False)

    def test_of_anything_as_a_pair_or_a_room(self):
        for thing in odd_things() + [None, 0, empty_room(2), (START,), START + START[:1], START[:1]]:
            for place in (0, 3, len(ALIKE[1]) - 1):
                self.told(ROWS, PASSES, 2, all_deeds(2), ("alike", with_part(ALIKE[1], place, thing)), False)
            self.told(ROWS, PASSES, 2, (), ("alike", (START, thing)), False)
            # Of the empty room this is the first pair twice.
            self.told(ROWS, PASSES, 2, (), ("alike", (START, (thing, empty_room(2)))), False)
            self.told(ROWS, PASSES, 2, (), ("alike", (START, (empty_room(2), thing))), False)

    def test_of_anything_as_a_deed(self):
        for thing in odd_things() + [None, 0, "tick", ["tick"], ("up", 2), ("up", False), ("read", False, None)]:
            for place in range(3):
                row = UP_ROW[:place] + (thing,) + UP_ROW[place:]
                self.told(ROWS, ROWS_UP, 2, all_deeds(2), ("parts", row), False)
                self.told(ROWS, ROWS_UP, 2, all_deeds(2), ("parts", row[:place + 1]), False)

    def test_truths_in_place_of_numbers(self):
        self.told(ROWS, ROWS_UP, 2, all_deeds(2), ("parts", (("read", False, None), ("up", 0))), False)
        self.told(ROWS, ROWS_UP, 2, all_deeds(2), ("parts", (("read", 0, None), ("up", False))), False)
        room = (("writes", "out"), ((1, "read", 0, None),))
        self.told(ROWS, PASSES, 2, (), ("alike", (START, both(room))), True)
        for entry in ((True, "read", 0, None), (1, "read", False, None), (1, "read", 0, True)):
            spoilt = (("writes", "out"), (entry,))
            self.told(ROWS, PASSES, 2, (), ("alike", (START, (room, spoilt))), False)
            self.told(ROWS, PASSES, 2, (), ("alike", (START, (spoilt, room))), False)

    def test_lists_in_place_of_tuples(self):
        for thing in (
            list(ALIKE), ("alike", list(ALIKE[1])), ("alike", set(ALIKE[1])), ("alike", dict(ALIKE[1])),
            ("alike", with_part(ALIKE[1], 0, list(START))), ("alike", with_part(ALIKE[1], 0, (list(START[0]), START[1]))),
        ):
            self.told(ROWS, PASSES, 2, all_deeds(2), thing, False)
        for thing in (list(PARTS), ("parts", list(UP_ROW)), ("parts", (UP_ROW[0], list(UP_ROW[1])))):
            self.told(ROWS, ROWS_UP, 2, all_deeds(2), thing, False)

    def test_parts_too_few_or_too_many(self):
        for paper in (ALIKE, PARTS):
            for thing in ((), paper[:1], paper[1:], paper + ((),), (paper,), paper * 2):
                self.told(ROWS, ROWS_UP, 2, all_deeds(2), thing, False)
                self.told(ROWS, PASSES, 2, all_deeds(2), thing, False)

    def test_other_words(self):
        for word in ("", "Alike", "alike ", "part", "parts\n", "within", "never", b"alike", b"parts", None):
            self.told(ROWS, PASSES, 2, all_deeds(2), (word, ALIKE[1]), False)
            self.told(ROWS, ROWS_UP, 2, all_deeds(2), (word, UP_ROW), False)
        self.told(ROWS, PASSES, 2, all_deeds(2), ("parts", ALIKE[1]), False)
        self.told(ROWS, ROWS_UP, 2, all_deeds(2), ("alike", UP_ROW), False)

    def test_sixty_deep(self):
        for thing in (nested(57), nested(57, list), nested_dict(57)):
            for word in ("alike", "parts"):
                self.told(ROWS, PASSES, 2, (), (word, (thing,)), False)
                self.told(ROWS, PASSES, 2, (), (word, (START, thing)), False)
                self.told(ROWS, PASSES, 2, (), (word, (START, (thing, START[0]))), False)

    def test_what_answers_as_it_likes(self):
        for thing in (Alike(), Thorny()):
            self.told(ROWS, PASSES, 2, (), (thing, thing), False)
            for word in ("alike", "parts"):
                self.told(ROWS, PASSES, 2, (), (word, thing), False)
                self.told(ROWS, PASSES, 2, UP_ROW, (word, (thing,)), False)
                self.told(ROWS, PASSES, 2, UP_ROW, (word, (START, (thing, thing))), False)
                self.told(ROWS, ROWS_UP, 2, UP_ROW, (word, (UP_ROW[0], (thing, 0))), False)

    def test_what_is_handed_in_is_not_changed(self):
        deeds = all_deeds(2)
        thing = ["alike", [[list(room) for room in pair] for pair in ALIKE[1]]]
        before = copy.deepcopy((deeds, thing))
        self.told(ROWS, PASSES, 2, deeds, thing, False)
        self.told(ROWS, PASSES, 2, deeds, tuple(thing), False)
        self.told(ROWS, PASSES, 2, deeds, ("alike", tuple(thing[1])), False)
        self.assertEqual((deeds, thing), before)


if __name__ == "__main__":
    unittest.main()
