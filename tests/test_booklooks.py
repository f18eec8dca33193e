"""A look at books: point 16."""

import copy
import itertools
import random
import unittest

from bounds import JUST, ONE_MORE
from model import House, deeds_of, empty_room, every_room, every_rule, model_book, model_stepped
from oddthings import Alike, Thorny, nested, nested_dict, odd_things, with_part

from manyreaders.booklooks import shows_book
from manyreaders.books import book
from manyreaders.deeds import all_deeds
from manyreaders.rooms import is_safe

ROWS = ("rows", 0, 0, 0)
ROWS_UP = ("rows", 0, 0, 1)
WAITING = (("writes", "out"), ((1, "read", 0, None),))


def wait(guest, want, mark=0, left=None):
    return (guest, want, mark, left)


def model_shows(rule, n, deeds, rooms):
    """What the document asks of a tuple of well-formed rooms."""
    if len(set(rooms)) != len(rooms) or empty_room(n) not in rooms:
        return False
    for room in rooms:
        house = House(rule, room)
        house.settle()
        if not is_safe(rule, room) or house.events:
            return False
        for deed in deeds:
            told = model_stepped(rule, room, deed)
            if told is not None and told[0] not in rooms:
                return False
    return True


class LookTests(unittest.TestCase):
    def told(self, rule, n, deeds, thing, expected):
        self.assertIs(shows_book(rule, n, deeds, thing), expected)
        self.assertIs(shows_book(rule, n, deeds, thing), expected)


class TakenTests(LookTests):
    def test_what_book_tells(self):
        for rule, n in itertools.product(every_rule(), range(1, 4)):
            self.told(rule, n, all_deeds(n), book(rule, n, all_deeds(n)), True)

    def test_what_book_tells_of_four_and_five_guests(self):
        for rule in every_rule(mosts=(0, 2), ks=(0,)):
            if len(model_book(rule, 4, all_deeds(4))) <= 2000:
                self.told(rule, 4, all_deeds(4), book(rule, 4, all_deeds(4)), True)
            some = tuple(deed for deed in all_deeds(5) if deed[1] in (0, 2, 4))
            self.told(rule, 5, some, book(rule, 5, some), True)

    def test_with_ticks_and_lefts(self):
        for rule in every_rule(ks=(1,)):
            deeds = tuple(deeds_of(2, lefts=(None, 0, 1, 9)))
            self.told(rule, 2, deeds, book(rule, 2, deeds), True)

    def test_no_deeds_at_all(self):
        for n in range(1, 6):
            self.told(ROWS, n, (), (empty_room(n),), True)

    def test_in_another_order(self):
        draw = random.Random(16)
        for rule in every_rule(ks=(1,)):
            rooms = list(book(rule, 2, all_deeds(2)))
            self.told(rule, 2, all_deeds(2), tuple(reversed(rooms)), True)
            draw.shuffle(rooms)
            self.told(rule, 2, all_deeds(2), tuple(rooms), True)

    def test_with_more_rooms_that_keep_the_promise(self):
        for rule in every_rule(ks=(1,)):
            rooms = book(rule, 3, all_deeds(3))
            self.told(rule, 3, all_deeds(3)[:4], rooms, True)
            self.told(rule, 3, (), rooms, True)
        # No row leads to a raised one where nobody may step up; deeds lead on from it all the same.
        rooms = book(ROWS, 1, all_deeds(1)) + ((("raised",), ()),)
        self.told(ROWS, 1, all_deeds(1), rooms, True)

    def test_just_as_many_rooms_as_a_book_may_have_and_more(self):
        for rule, n, deeds in (JUST, ONE_MORE):
            rooms = tuple(model_book(rule, n, deeds))
            self.told(rule, n, deeds, rooms, True)
            self.told(rule, n, deeds, rooms[:-1], False)


class SentBackTests(LookTests):
    def test_without_the_empty_room(self):
        self.told(ROWS, 1, (), (), False)
        self.told(ROWS, 1, (), ((("reads",), ()),), False)
        self.told(ROWS, 2, (), (empty_room(1),), False)
        for rule in every_rule(ks=(1,)):
            self.told(rule, 2, all_deeds(2), book(rule, 2, all_deeds(2))[1:], False)

    def test_a_room_twice(self):
        rooms = book(ROWS, 2, all_deeds(2))
        for room in rooms:
            self.told(ROWS, 2, all_deeds(2), rooms + (room,), False)
        self.told(ROWS, 1, (), (empty_room(1), empty_room(1)), False)

    def test_one_left_out(self):
        for rule in every_rule(ks=(1,)):
            rooms = book(rule, 2, all_deeds(2))
            for place in range(len(rooms)):
                self.told(rule, 2, all_deeds(2), rooms[:place] + rooms[place + 1:], False)

    def test_a_deed_more(self):
        rooms = book(ROWS, 2, all_deeds(2))
        self.told(ROWS, 2, all_deeds(2) + (("tick",),), rooms, True)
        self.told(ROWS, 2, all_deeds(2) + (("read", 0, 0),), rooms, True)
        self.told(ROWS, 2, all_deeds(2) + (("read", 0, 1),), rooms, False)

    def test_where_a_tick_leads_out(self):
        deeds = (("write", 0, None), ("read", 1, 2))
        rooms = tuple(room for room in book(ROWS, 2, deeds))
        self.told(ROWS, 2, deeds, rooms, True)
        self.told(ROWS, 2, deeds + (("tick",),), rooms, False)
        more = rooms + ((("writes", "out"), ((1, "read", 0, 1),)),)
        self.told(ROWS, 2, deeds + (("tick",),), more, True)

    def test_by_another_rule(self):
        rooms = book(ROWS, 3, all_deeds(3))
        self.told(("readers", 0, 0, 0), 3, all_deeds(3), rooms, False)
        self.told(("rows", 2, 0, 0), 3, all_deeds(3), rooms, False)
        self.told(ROWS_UP, 3, all_deeds(3), rooms, False)

    def test_with_an_unsafe_room(self):
        for within, most in (
            (("writes", "writes"), 0), (("writes", "reads"), 0), (("raised", "writes"), 0), (("raised", "rising"), 0),
            (("rising", "rising"), 0), (("reads", "reads"), 1), (("rising", "reads"), 1),
        ):
            for word in ("rows", "readers", "writers", "turns", "passes"):
                self.told((word, most, 0, 1), 2, (), (empty_room(2), (within, ())), False)

    def test_with_a_room_in_which_one_could_still_step_up(self):
        for rule in every_rule():
            self.told(rule, 1, (), (empty_room(1), (("rising",), ())), False)
            self.told(rule, 2, (), (empty_room(2), (("rising", "out"), (wait(1, "read"),))), False)

    def test_with_a_room_in_which_one_could_still_go_in(self):
        for rule in every_rule():
            for want in ("read", "write"):
                self.told(rule, 1, (), (empty_room(1), (("out",), (wait(0, want),))), False)
        room = (("reads", "out", "out"), (wait(1, "write", 1), wait(2, "read", 0)))
        self.told(("readers", 0, 0, 0), 3, (), (empty_room(3), room), False)
        self.told(("writers", 0, 0, 0), 3, (), (empty_room(3), room), True)
        self.told(("passes", 0, 2, 0), 3, (), (empty_room(3), room), False)
        self.told(("passes", 0, 1, 0), 3, (), (empty_room(3), room), True)

    def test_as_the_document_asks_of_some_rooms(self):
        draw = random.Random(161)
        answers = set()
        others = every_room(2, marks=(0, 1))
        for rule in every_rule(ks=(0, 1)):
            deeds = tuple(draw.sample(deeds_of(2, lefts=(None, 0)), 4))
            rooms = list(book(rule, 2, deeds))
            for step in range(12):
                thing = rooms + draw.sample(others, draw.randrange(3))
                if draw.randrange(3) == 0:
                    thing.pop(draw.randrange(len(thing)))
                expected = model_shows(rule, 2, deeds, tuple(thing))
                answers.add(expected)
                self.told(rule, 2, deeds, tuple(thing), expected)
        self.assertEqual(answers, {True, False})


class AnythingTests(LookTests):
    def test_of_anything(self):
        for thing in odd_things() + [None, 0, 1, "empty", b"", empty_room(1), {empty_room(1)}, {empty_room(1): True}]:
            for deeds in ((), all_deeds(1)):
                self.told(ROWS, 1, deeds, thing, False)

    def test_of_anything_beside_the_empty_room(self):
        for thing in odd_things() + [None, 0, "out", empty_room(2), (empty_room(1),)]:
            self.told(ROWS, 1, (), (empty_room(1), thing), False)
            self.told(ROWS, 1, (), (thing, empty_room(1)), False)

    def test_of_anything_within_a_room(self):
        for thing in odd_things():
            self.told(ROWS, 2, (), (empty_room(2), with_part(WAITING, 0, thing)), False)
            # The empty tuple alone of these is what waits may be.
            if not (type(thing) is tuple and len(thing) == 0):
                self.told(ROWS, 2, (), (empty_room(2), with_part(WAITING, 1, thing)), False)
            for place in range(4):
                entry = with_part((1, "read", 0, None), place, thing)
                self.told(ROWS, 2, (), (empty_room(2), (WAITING[0], (entry,))), False)

    def test_lists_in_place_of_tuples_at_each_depth(self):
        within, waits = WAITING
        self.told(ROWS, 2, (), (empty_room(2), WAITING), True)
        self.told(ROWS, 2, (), [empty_room(2), WAITING], False)
        self.told(ROWS, 2, (), (empty_room(2), list(WAITING)), False)
        self.told(ROWS, 2, (), (empty_room(2), (list(within), waits)), False)
        self.told(ROWS, 2, (), (empty_room(2), (within, list(waits))), False)
        self.told(ROWS, 2, (), (empty_room(2), (within, (list(waits[0]),))), False)

    def test_truths_in_place_of_numbers(self):
        for entry in ((True, "read", 0, None), (1, "read", False, None), (1, "read", True, None), (1, "read", 0, True)):
            self.told(ROWS, 2, (), (empty_room(2), (WAITING[0], (entry,))), False)

    def test_sixty_deep(self):
        for thing in (nested(59), nested(59, list), nested_dict(59)):
            self.told(ROWS, 1, (), (thing,), False)
            self.told(ROWS, 1, all_deeds(1), (empty_room(1), thing), False)
        self.told(ROWS, 1, (), (empty_room(1), (nested(58), ())), False)

    def test_what_answers_as_it_likes(self):
        for thing in (Alike(), Thorny()):
            self.told(ROWS, 1, (), (empty_room(1), (thing, ())), False)
            self.told(ROWS, 1, (), (empty_room(1), ((thing,), ())), False)
            self.told(ROWS, 1, (), (empty_room(1), (("out",), thing)), False)
            self.told(ROWS, 2, (), (empty_room(2), (WAITING[0], (thing,))), False)

    def test_what_is_handed_in_is_not_changed(self):
        rule, deeds = ("passes", 2, 3, 1), all_deeds(2)
        listed = [list(room) for room in book(rule, 2, deeds)]
        before = copy.deepcopy((rule, deeds, listed))
        self.told(rule, 2, deeds, listed, False)
        self.told(rule, 2, deeds, tuple(listed), False)
        self.assertEqual((rule, deeds, listed), before)


if __name__ == "__main__":
    unittest.main()
