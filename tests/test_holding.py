"""Two rules held against one another: point 21, and (f) of point 3."""

import copy
import itertools
import random
import unittest

from bounds import JUST, ONE_MORE, PARTS_JUST, PARTS_LATE
from model import deeds_of, empty_room, every_rule, model_held, model_stepped

from manyreaders.books import book
from manyreaders.deeds import all_deeds
from manyreaders.errors import TooMany
from manyreaders.heldlooks import shows_held
from manyreaders.holding import held

ROWS = ("rows", 0, 0, 0)
ROWS_UP = ("rows", 0, 0, 1)
READERS = ("readers", 0, 0, 0)


def model_parts(one, other, n, row):
    """Whether all but the last deed of the row bring the same by both rules, and the last parts them."""
    rooms = [empty_room(n), empty_room(n)]
    for at, deed in enumerate(row):
        first, second = model_stepped(one, rooms[0], deed), model_stepped(other, rooms[1], deed)
        if first is None and second is None:
            return False
        if first is None or second is None or first[1] != second[1]:
            return at == len(row) - 1
        rooms = [first[0], second[0]]
    return False


def first_parting(one, other, n, deeds, longest):
    """The first of all rows of the deeds, gone through one by one by size, that parts the rules."""
    for many in range(longest + 1):
        for row in itertools.product(deeds, repeat=many):
            if model_parts(one, other, n, row):
                return row
    return None


class HeldTests(unittest.TestCase):
    def alike(self, one, other, n, deeds):
        told = held(one, other, n, deeds)
        self.assertEqual(told[0], "alike", (one, other, told))
        self.assertEqual(told, model_held(one, other, n, deeds)[0])
        self.assertEqual(told[1][0], (empty_room(n), empty_room(n)))
        self.assertIs(type(told[1]), tuple)
        self.assertIs(shows_held(one, other, n, deeds, told), True)
        return told[1]

    def parts(self, one, other, n, deeds, row):
        self.assertEqual(held(one, other, n, deeds), ("parts", row))
        self.assertIs(model_parts(one, other, n, row), True)


class AlikeTests(HeldTests):
    def test_a_rule_and_itself(self):
        for rule, n in itertools.product(every_rule(), range(1, 4)):
            told = held(rule, rule, n, all_deeds(n))
            self.assertEqual(told, ("alike", tuple((room, room) for room in book(rule, n, all_deeds(n)))))

    def test_rows_and_passes_that_passes_nobody(self):
        for most, ups in itertools.product((0, 1, 2), (0, 1)):
            for n in range(1, 4):
                self.alike(("rows", most, 0, ups), ("passes", most, 0, ups), n, all_deeds(n))

    def test_bounds_that_are_never_met(self):
        for word, n in itertools.product(("rows", "readers", "writers", "turns"), range(1, 4)):
            for most in range(n, 6):
                self.alike((word, 0, 0, 1), (word, most, 0, 1), n, all_deeds(n))

    def test_steps_up_that_nobody_asks_for(self):
        deeds = tuple(deed for deed in all_deeds(3) if deed[0] != "up")
        for word in ("rows", "readers", "writers", "turns", "passes"):
            pairs = self.alike((word, 2, 0, 0), (word, 2, 0, 1), 3, deeds)
            self.assertGreater(len(pairs), 10)

    def test_one_guest_and_two(self):
        for one, other in itertools.combinations([rule for rule in every_rule(mosts=(0, 2)) if rule[3] == 1], 2):
            self.alike(one, other, 1, all_deeds(1))
            self.assertEqual(held(one, other, 2, all_deeds(2)), model_held(one, other, 2, all_deeds(2))[0])

    def test_pairs_of_unlike_rooms(self):
        # Passes has marks, readers has none.
        pairs = self.alike(("readers", 0, 0, 0), ("passes", 0, 9, 0), 3, AFTER_A_READER)
        self.assertTrue(any(first != second for first, second in pairs))

    def test_no_deeds_and_deeds_that_can_never_be_done(self):
        for n in range(1, 6):
            nothing = ("alike", ((empty_room(n), empty_room(n)),))
            self.assertEqual(held(ROWS, READERS, n, ()), nothing)
            self.assertEqual(held(ROWS, ROWS_UP, n, (("up", 0), ("down", 0), ("leave", 0), ("stop", 0))), nothing)
            self.assertEqual(held(ROWS, READERS, n, (("tick",),)), nothing)

    def test_no_single_deed_parts_any_two_rules(self):
        for one, other in itertools.combinations(every_rule(ks=(0, 1)), 2):
            for deed in deeds_of(2, lefts=(None, 0, 1)):
                self.assertEqual(held(one, other, 2, (deed,))[0], "alike")


# Guest 1 reads for good, guest 0 waits to write, guest 2 goes past it but once.
AFTER_A_READER = (("read", 1, None), ("write", 0, None), ("read", 2, None))


class PartsTests(HeldTests):
    def test_by_steps_up(self):
        self.parts(ROWS, ROWS_UP, 1, all_deeds(1), (("read", 0, None), ("up", 0)))
        self.parts(ROWS_UP, ROWS, 3, all_deeds(3), (("read", 0, None), ("up", 0)))
        self.parts(ROWS, ROWS_UP, 1, all_deeds(1)[::-1], (("read", 0, None), ("up", 0)))
        self.parts(ROWS, ROWS_UP, 1, (("write", 0, None), ("down", 0), ("up", 0)), (
            ("write", 0, None), ("down", 0), ("up", 0),
        ))

    def test_by_a_bound_of_readers(self):
        reads = tuple(("read", guest, None) for guest in range(5))
        for most in range(1, 5):
            self.parts(ROWS, ("rows", most, 0, 0), 5, reads, reads[:most + 1])

    def test_by_who_goes_first(self):
        self.parts(ROWS, READERS, 3, AFTER_A_READER, AFTER_A_READER)
        self.parts(READERS, ROWS, 3, AFTER_A_READER, AFTER_A_READER)
        self.parts(("passes", 0, 1, 0), ROWS, 3, AFTER_A_READER[::-1], (
            ("read", 2, None), ("write", 0, None), ("read", 1, None),
        ))

    def test_by_how_often_one_is_passed(self):
        deeds = AFTER_A_READER + (("leave", 2),)
        past = (("read", 2, None), ("leave", 2))
        for k in range(9):
            row = AFTER_A_READER[:2] + past * k + past[:1]
            self.parts(("passes", 0, k, 0), ("passes", 0, k + 1, 0), 3, deeds, row)
            self.parts(("passes", 0, k, 0), READERS, 3, deeds, row)

    def test_by_turns(self):
        deeds = (("write", 0, None), ("read", 1, None), ("write", 2, None), ("leave", 0))
        self.parts(("turns", 0, 0, 0), ("writers", 0, 0, 0), 3, deeds, deeds)

    def test_by_a_wait_that_ends_at_once(self):
        deeds = (("read", 0, None), ("write", 1, None), ("read", 2, 0))
        self.parts(ROWS, READERS, 3, deeds, deeds)

    def test_with_ticks_and_waits_that_end(self):
        deeds = (("tick",), ("read", 1, None), ("write", 0, 2), ("read", 2, 1))
        self.parts(ROWS, READERS, 3, deeds, deeds[1:])
        self.parts(ROWS, ("rows", 1, 0, 0), 3, deeds, (("read", 1, None), ("read", 2, 1)))
        self.assertGreater(len(self.alike(READERS, ("passes", 0, 9, 0), 3, deeds)), 10)

    def test_the_first_by_the_order_of_the_deeds(self):
        deeds = (("read", 1, None), ("up", 1), ("read", 0, None), ("up", 0))
        self.parts(ROWS, ROWS_UP, 2, deeds, (("read", 1, None), ("up", 1)))
        self.parts(ROWS, ROWS_UP, 2, deeds[::-1], (("read", 0, None), ("up", 0)))
        # A shorter row first, though its deeds stand behind.
        deeds = (("write", 0, None), ("down", 0), ("up", 0), ("read", 1, None), ("up", 1))
        self.parts(ROWS, ROWS_UP, 2, deeds, (("read", 1, None), ("up", 1)))

    def test_no_row_gone_through_one_by_one_is_smaller(self):
        draw = random.Random(21)
        lengths = []
        for one, other in itertools.product(every_rule(mosts=(0, 1), ks=(0, 1)), repeat=2):
            deeds = tuple(draw.sample(deeds_of(3, lefts=(None, 0)), 6))
            word, told = held(one, other, 3, deeds)
            if word == "parts" and len(told) <= 4:
                lengths.append(len(told))
                self.assertEqual(told, first_parting(one, other, 3, deeds, 4))
            else:
                self.assertIsNone(first_parting(one, other, 3, deeds, 3))
        self.assertEqual(set(lengths), {2, 3, 4})


class AgainstTheModelTests(HeldTests):
    def same(self, one, other, n, deeds):
        told, many = model_held(one, other, n, deeds)
        if many > 2000:
            with self.assertRaises(TooMany):
                held(one, other, n, deeds)
        else:
            self.assertEqual(held(one, other, n, deeds), told)
        return told[0]

    def test_all_deeds_of_three_guests(self):
        words = set()
        for one, other in itertools.combinations(every_rule(mosts=(0, 2), ks=(0, 1, 2)), 2):
            words.add(self.same(one, other, 3, all_deeds(3)))
        self.assertEqual(words, {"alike", "parts"})

    def test_some_deeds_in_an_order_of_their_own(self):
        draw = random.Random(211)
        words = []
        rules = every_rule(mosts=(0, 1, 2), ks=(0, 1, 2, 9))
        for step in range(250):
            n = draw.randrange(1, 6)
            deeds = deeds_of(n, lefts=(None, 0, 2))
            draw.shuffle(deeds)
            words.append(self.same(draw.choice(rules), draw.choice(rules), n, tuple(deeds[:draw.randrange(2, 14)])))
        self.assertGreater(words.count("alike"), 20)
        self.assertGreater(words.count("parts"), 20)

    def test_each_row_brings_the_same_where_they_do_alike(self):
        draw = random.Random(212)
        for n in (3, 4):
            one, other = ("rows", 2, 0, 1), ("passes", 2, 0, 1)
            deeds = tuple(deed for deed in all_deeds(n) if deed[1] < 3)
            self.assertEqual(held(one, other, n, deeds)[0], "alike")
            rooms = [empty_room(n), empty_room(n)]
            for step in range(400):
                told = [[model_stepped(rule, room, deed) for deed in deeds] for rule, room in zip((one, other), rooms)]
                self.assertEqual([told is None for told in told[0]], [told is None for told in told[1]])
                place = draw.choice([place for place, behind in enumerate(told[0]) if behind is not None])
                self.assertEqual(told[0][place][1], told[1][place][1])
                rooms = [told[0][place][0], told[1][place][0]]


class BoundTests(HeldTests):
    def test_just_2000_pairs(self):
        rule, n, deeds = JUST
        word, pairs = held(rule, rule, n, deeds)
        self.assertEqual((word, len(pairs)), ("alike", 2000))
        self.assertEqual(pairs, tuple((room, room) for room in book(rule, n, deeds)))
        self.assertIs(shows_held(rule, rule, n, deeds, (word, pairs)), True)

    def test_one_more(self):
        rule, n, deeds = ONE_MORE
        with self.assertRaises(TooMany):
            held(rule, rule, n, deeds)

    def test_many_more(self):
        for rule in (ROWS, READERS):
            with self.assertRaises(TooMany):
                held(rule, rule, 5, all_deeds(5))

    def test_a_parting_when_just_2000_are_come_to(self):
        one, other, n, deeds = PARTS_JUST
        told, many = model_held(one, other, n, deeds)
        self.assertEqual((told[0], many), ("parts", 2000))
        self.assertEqual(held(one, other, n, deeds), told)
        self.assertEqual(held(other, one, n, deeds), told)

    def test_a_parting_when_one_more_is_come_to(self):
        one, other, n, deeds = PARTS_LATE
        told, many = model_held(one, other, n, deeds)
        self.assertEqual((told[0], many), ("parts", 2001))
        for first, second in ((one, other), (other, one)):
            with self.assertRaises(TooMany):
                held(first, second, n, deeds)
        # The row itself is taken all the same.
        self.assertIs(shows_held(one, other, n, deeds, told), True)

    def test_a_parting_ahead_of_very_many(self):
        self.parts(ROWS, ROWS_UP, 5, all_deeds(5), (("read", 0, None), ("up", 0)))
        with self.assertRaises(TooMany):
            held(ROWS, ("passes", 0, 0, 0), 5, all_deeds(5))


class AgainTests(HeldTests):
    def test_nothing_is_changed_and_the_same_is_told_again(self):
        for one, other in ((("passes", 2, 3, 1), ("passes", 2, 4, 1)), (ROWS, ROWS), (ROWS, READERS)):
            deeds = all_deeds(3) + (("tick",),)
            before = copy.deepcopy((one, other, deeds))
            self.assertEqual(held(one, other, 3, deeds), held(one, other, 3, deeds))
            self.assertEqual((one, other, deeds), before)


if __name__ == "__main__":
    unittest.main()
