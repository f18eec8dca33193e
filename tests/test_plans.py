"""Plans and weavings: point 23."""

import copy
import itertools
import random
import unittest

from model import empty_room, every_rule, model_step, model_weave, some_plans
from oddthings import Alike, Thorny, nested, nested_dict, odd_things, with_part

from manyreaders.errors import NoDeed
from manyreaders.plans import is_plans, woven
from manyreaders.runs import ran

ROWS = ("rows", 0, 0, 0)
ROWS_UP = ("rows", 0, 0, 1)
WORDS = ("read", "write", "up", "down", "leave")


class PlansTests(unittest.TestCase):
    def told(self, thing, expected):
        self.assertIs(is_plans(thing), expected)
        self.assertIs(is_plans(thing), expected)

    def test_plans(self):
        for n in range(1, 6):
            self.told(((),) * n, True)
            for many in range(7):
                self.told((("read",) * many,) * n, True)
        for word in WORDS:
            self.told(((word,),), True)
        self.told((("read", "up", "down", "leave"), ("write", "leave"), ()), True)
        # Words that could never be done are words all the same.
        self.told((("leave", "down", "up"),), True)

    def test_drawn_ones(self):
        draw = random.Random(23)
        for step in range(200):
            self.told(some_plans(draw.randrange(1, 6), draw), True)

    def test_guests_too_few_or_too_many(self):
        self.told((), False)
        self.told(((),) * 6, False)
        self.told((("read",),) * 6, False)

    def test_seven_words(self):
        self.told((("read",) * 7,), False)
        for place in range(3):
            plans = (("read",), ("write",), ())
            self.told(with_part(plans, place, ("read", "leave") * 3), True)
            self.told(with_part(plans, place, ("read", "leave") * 3 + ("read",)), False)

    def test_other_words(self):
        for word in ("", "reads", "Read", "read ", " read", "stop", "tick", "steps", "in", b"read", None, 0, True):
            for place in range(3):
                self.told((("read", "leave"), with_part(("read", "up", "leave"), place, word)), False)

    def test_deeds_are_no_words(self):
        self.told(((("read", 0, None),),), False)
        self.told((("read", 0, None),), False)
        self.told((("up", 0),), False)

    def test_lists_in_place_of_tuples(self):
        self.told([("read",)], False)
        self.told((["read"],), False)
        self.told((("read",), []), False)
        self.told(([],), False)
        self.told(({"read": 0},), False)
        self.told({0: ("read",)}, False)
        self.told(({"read"},), False)
        self.told({("read",)}, False)

    def test_texts_in_place_of_tuples(self):
        self.told("read", False)
        self.told(("read",), False)
        self.told(("",), False)
        self.told((b"",), False)
        self.told((("read",), "read"), False)

    def test_of_anything(self):
        for thing in odd_things() + [None, 0, 1]:
            # A tuple of the empty tuple is plans of a guest without words.
            self.told(thing, type(thing) is tuple and repr(thing) == "((),)")
            if not (type(thing) is tuple and len(thing) == 0):
                self.told((thing,), False)
                self.told((("read",), thing), False)
            self.told((("read", thing),), False)
            self.told(((thing, "leave"),), False)

    def test_sixty_deep(self):
        for thing in (nested(60), nested(60, list), nested_dict(60)):
            self.told(thing, False)
        for thing in (nested(58), nested(58, list), nested_dict(58)):
            self.told((thing,), False)
            self.told(((thing,),), False)

    def test_what_answers_as_it_likes(self):
        for thing in (Alike(), Thorny()):
            self.told(thing, False)
            self.told((thing,), False)
            self.told(((thing,),), False)
            self.told((("read", thing), ()), False)

    def test_what_is_handed_in_is_not_changed(self):
        thing = [["read", "leave"], ["write"]]
        before = copy.deepcopy(thing)
        self.told(thing, False)
        self.told(tuple(thing), False)
        self.assertEqual(thing, before)


class WovenCase(unittest.TestCase):
    def refused(self, rule, plans, weaving, place):
        for again in range(2):
            with self.assertRaises(NoDeed) as caught:
                woven(rule, plans, weaving)
            self.assertEqual(caught.exception.place, place)
            self.assertIs(type(caught.exception.place), int)


class WovenTests(WovenCase):
    def test_an_empty_weaving(self):
        for n in range(1, 6):
            self.assertEqual(woven(ROWS, ((),) * n, ()), (empty_room(n), ()))
            self.assertEqual(woven(ROWS, (("read", "leave"),) * n, ()), (empty_room(n), ()))

    def test_a_whole_one_and_its_beginnings(self):
        plans = (("read", "leave"), ("write", "leave"))
        rooms = (
            empty_room(2), (("reads", "out"), ()), (("reads", "out"), ((1, "write", 0, None),)),
            (("out", "writes"), ()), empty_room(2),
        )
        brought = ((("in", 0),), (("waits", 1),), (("out", 0), ("in", 1)), (("out", 1),))
        for many in range(5):
            self.assertEqual(woven(ROWS, plans, (0, 1, 0, 1)[:many]), (rooms[many], brought[:many]))

    def test_all_words(self):
        plans = (("read", "up", "down", "up", "leave"),)
        room, brought = woven(ROWS_UP, plans, (0,) * 5)
        self.assertEqual(room, empty_room(1))
        self.assertEqual(brought, ((("in", 0),), (("steps", 0),), (("down", 0),), (("steps", 0),), (("out", 0),)))
        room, brought = woven(ROWS, plans, (0,) * 5)
        self.assertEqual(brought, ((("in", 0),), (("no", 0),), (), (("no", 0),), (("out", 0),)))

    def test_words_passed_over(self):
        plans = (("leave", "up", "down", "read", "read", "write", "down", "leave", "leave"),)
        room, brought = woven(ROWS_UP, plans, (0,) * 9)
        self.assertEqual(brought, ((), (), (), (("in", 0),), (), (), (), (("out", 0),), ()))
        for many in range(3):
            self.assertEqual(woven(ROWS_UP, plans, (0,) * many)[0], empty_room(1))

    def test_guests_that_wait_when_all_words_are_done(self):
        plans = (("read",), ("write",), ("read", "up"))
        room, brought = woven(ROWS_UP, plans, (0, 2, 2, 1))
        self.assertEqual(room, (("reads", "out", "rising"), ((1, "write", 0, None),)))
        self.assertEqual(brought, ((("in", 0),), (("in", 2),), (("waits", 2),), (("waits", 1),)))

    def test_other_rules(self):
        plans = (("read",), ("write",), ("read",))
        self.assertEqual(woven(ROWS, plans, (0, 1, 2))[1][2], (("waits", 2),))
        self.assertEqual(woven(("readers", 0, 0, 0), plans, (0, 1, 2))[1][2], (("in", 2),))
        self.assertEqual(woven(("readers", 1, 0, 0), plans, (0, 1, 2))[1][2], (("waits", 2),))
        self.assertEqual(woven(("passes", 0, 1, 0), plans, (0, 1, 2))[0][1], ((1, "write", 1, None),))

    def test_as_the_document_asks(self):
        draw = random.Random(231)
        for rule, n in itertools.product(every_rule(), range(1, 6)):
            plans = some_plans(n, draw)
            weaving, rooms, brought = model_weave(rule, plans, draw)
            self.assertEqual(woven(rule, plans, weaving), (rooms[-1], tuple(brought)))
            part = draw.randrange(len(weaving) + 1)
            self.assertEqual(woven(rule, plans, weaving[:part]), (rooms[part], tuple(brought[:part])))

    def test_its_steps_are_deeds(self):
        draw = random.Random(232)
        for rule in every_rule(ks=(1,)):
            plans = some_plans(3, draw)
            weaving = model_weave(rule, plans, draw)[0]
            room, counts, row = empty_room(3), (0, 0, 0), []
            for guest in weaving:
                room, counts, deed, events = model_step(rule, plans, room, counts, guest)
                row += [] if deed is None else [deed]
            told = woven(rule, plans, weaving)
            self.assertEqual(ran(rule, 3, tuple(row))[0], told[0])
            self.assertEqual(sum(ran(rule, 3, tuple(row))[1], ()), sum(told[1], ()))

    def test_nothing_is_changed_and_the_same_is_told_again(self):
        plans, weaving = (("read", "leave"), ("write", "leave"), ("read",)), (2, 1, 0)
        before = copy.deepcopy((plans, weaving))
        told = woven(ROWS_UP, plans, weaving)
        self.assertEqual(woven(ROWS_UP, plans, weaving), told)
        self.assertEqual((plans, weaving), before)
        self.assertEqual([type(part) for part in (told, told[1], told[1][0])], [tuple, tuple, tuple])


class RefusedTests(WovenCase):
    def test_no_word_left(self):
        self.refused(ROWS, ((),), (0,), 0)
        self.refused(ROWS, (("read",),), (0, 0), 1)
        self.refused(ROWS, (("read",), ("read", "leave")), (1, 0, 1, 0), 3)
        self.refused(ROWS, (("leave",),), (0, 0), 1)
        self.refused(ROWS, (("read",) * 6,), (0,) * 7, 6)

    def test_one_that_waits(self):
        plans = (("write", "leave"), ("read", "leave"))
        self.refused(ROWS, plans, (0, 1, 1), 2)
        self.refused(ROWS, plans, (0, 1, 1, 0), 2)
        self.assertEqual(woven(ROWS, plans, (0, 1, 0, 1))[0], empty_room(2))
        # Its word left couldn't be done: it isn't passed over while it waits.
        self.refused(ROWS, (("write",), ("read", "down")), (0, 1, 1), 2)

    def test_one_that_rises(self):
        plans = (("read", "up", "leave"), ("read", "leave"))
        self.refused(ROWS_UP, plans, (0, 1, 0, 0), 3)
        self.assertEqual(woven(ROWS_UP, plans, (0, 1, 0, 1, 0))[0], empty_room(2))
        self.assertEqual(woven(ROWS, plans, (0, 1, 0, 0, 1))[0], empty_room(2))

    def test_what_is_no_guest(self):
        plans = (("read", "leave"), ("read", "leave"))
        whole = (0, 1, 0, 1)
        for thing in odd_things() + [None, 2, 5, -1, -2, "0", 0.0, (0,), [0]]:
            for place in (0, 2, 3, 4):
                self.refused(ROWS, plans, whole[:place] + (thing,) + whole[place:], place)

    def test_truths_are_no_guests(self):
        plans = (("read", "leave"), ("read", "leave"))
        self.refused(ROWS, plans, (False, 1), 0)
        self.refused(ROWS, plans, (0, True), 1)

    def test_the_first_of_several(self):
        plans = (("write", "leave"), ("read", "leave"))
        self.refused(ROWS, plans, (0, 7, 1, 1, None), 1)
        self.refused(ROWS, plans, (0, 1, 1, 7), 2)

    def test_each_step_that_can_not_be(self):
        draw = random.Random(233)
        many = 0
        for rule in every_rule(ks=(1,)):
            plans = some_plans(4, draw)
            weaving = model_weave(rule, plans, draw)[0]
            room, counts = empty_room(4), (0,) * 4
            for place, guest in enumerate(weaving + (0,)):
                for other in range(4):
                    if model_step(rule, plans, room, counts, other) is None:
                        many += 1
                        self.refused(rule, plans, weaving[:place] + (other,) + weaving[place:], place)
                if place < len(weaving):
                    room, counts, deed, events = model_step(rule, plans, room, counts, guest)
        self.assertGreater(many, 100)


if __name__ == "__main__":
    unittest.main()
