"""Rooms: points 5 and 6."""

import copy
import itertools
import math
import unittest

from oddthings import Alike, nested, odd_things, with_part

from manyreaders.rooms import empty, is_room, is_safe, readers_in, waiting, writer_in

WITHIN = ("out", "reads", "rising", "writes", "raised")
RULE_WORDS = ("rows", "readers", "writers", "turns", "passes")
MIXED = (
    ("out", "reads", "out", "rising", "out"),
    ((4, "write", 999, None), (0, "read", 0, 9), (2, "write", 3, 1)),
)


class LookTests(unittest.TestCase):
    def taken(self, n, thing):
        self.assertIs(is_room(n, thing), True, repr(thing))
        self.assertIs(is_room(n, thing), True, repr(thing))

    def sent_back(self, n, thing):
        self.assertIs(is_room(n, thing), False)
        self.assertIs(is_room(n, thing), False)


class WithinTests(LookTests):
    def test_each_word_at_each_guest(self):
        for n in range(1, 6):
            for within in itertools.product(WITHIN, repeat=n):
                self.taken(n, (within, ()))

    def test_words_that_are_none(self):
        for word in ("", "in", "read", "write", "up", "Out", "out ", "reads\n", "rise", "raise"):
            self.sent_back(1, ((word,), ()))
            self.sent_back(3, (("out", "reads", word), ()))

    def test_another_number_of_guests(self):
        for n, many in itertools.product(range(1, 6), range(7)):
            if many != n:
                self.sent_back(n, (("out",) * many, ()))

    def test_of_anything_as_a_word(self):
        for thing in odd_things() + [None, 0, ("out",)]:
            self.sent_back(1, ((thing,), ()))
            self.sent_back(2, (("out", thing), ()))

    def test_of_anything_as_within(self):
        for thing in odd_things() + [None, "o", "out", 1]:
            self.sent_back(1, (thing, ()))


class WaitTests(LookTests):
    def test_a_room_with_much_in_it(self):
        self.taken(5, MIXED)

    def test_all_wait_in_any_order(self):
        for n in range(1, 6):
            for order in itertools.permutations(range(n)):
                waits = tuple((guest, ("read", "write")[guest % 2], guest, None) for guest in order)
                self.taken(n, (("out",) * n, waits))

    def test_each_want(self):
        self.taken(1, (("out",), ((0, "read", 0, None),)))
        self.taken(1, (("out",), ((0, "write", 0, None),)))

    def test_wants_that_are_none(self):
        for want in ("", "up", "reads", "writes", "Read", "read ", None, 0, b"read", ("read",)):
            self.sent_back(1, (("out",), ((0, want, 0, None),)))

    def test_marks(self):
        for mark in (0, 1, 9, 10, 998, 999):
            self.taken(1, (("out",), ((0, "read", mark, None),)))
        for mark in (-1, 1000, 1001, None, True, False, 1.0, "0"):
            self.sent_back(1, (("out",), ((0, "read", mark, None),)))

    def test_lefts(self):
        for left in (None, 1, 2, 8, 9):
            self.taken(1, (("out",), ((0, "write", 0, left),)))
        for left in (-1, 0, 10, 11, True, False, 1.0, "1", "-"):
            self.sent_back(1, (("out",), ((0, "write", 0, left),)))

    def test_guests_that_are_none(self):
        for n in range(1, 6):
            for guest in (-n - 1, -n, -1, n, n + 1, None, "0", 0.0, False):
                self.sent_back(n, (("out",) * n, ((guest, "read", 0, None),)))
        for truth in (True, False):
            self.sent_back(2, (("out", "out"), ((truth, "read", 0, None),)))

    def test_one_guest_twice(self):
        first = (0, "read", 0, None)
        for second in (first, (0, "write", 0, None), (0, "read", 1, None), (0, "read", 0, 3)):
            self.sent_back(3, (("out",) * 3, (first, second)))
            self.sent_back(3, (("out",) * 3, (first, (1, "read", 0, None), second)))

    def test_one_that_waits_within(self):
        for word in WITHIN[1:]:
            self.sent_back(1, ((word,), ((0, "read", 0, None),)))
            self.sent_back(3, (("out", "out", word), ((0, "write", 0, 2), (2, "write", 0, None))))
            self.taken(3, (("out", "out", word), ((1, "write", 0, 2), (0, "write", 0, None))))

    def test_parts_too_few_or_too_many(self):
        entry = (0, "read", 0, None)
        for many in range(4):
            self.sent_back(1, (("out",), (entry[:many],)))
        self.sent_back(1, (("out",), (entry + (None,),)))
        self.sent_back(1, (("out",), entry))
        self.sent_back(1, (("out",), ((entry,),)))

    def test_of_anything_as_waits(self):
        for thing in odd_things() + [None, 0, "out"]:
            # The empty tuple alone of these is what waits may be.
            if not (type(thing) is tuple and len(thing) == 0):
                self.sent_back(1, (("out",), thing))

    def test_of_anything_as_an_entry(self):
        for thing in odd_things() + [None, 0, "read"]:
            self.sent_back(1, (("out",), (thing,)))
            self.sent_back(2, (("out", "out"), ((1, "read", 0, None), thing)))

    def test_of_anything_as_a_part_of_an_entry(self):
        entry = (1, "read", 1, 1)
        for thing, place in itertools.product(odd_things(), range(4)):
            self.sent_back(2, (("out", "out"), (with_part(entry, place, thing),)))


class RoomTests(LookTests):
    def test_of_anything(self):
        for n in range(1, 6):
            for thing in odd_things() + [None, 0, "out", ("out",) * n]:
                self.sent_back(n, thing)

    def test_parts_too_few_or_too_many(self):
        for n in range(1, 6):
            within, waits = empty(n)
            self.sent_back(n, (within,))
            self.sent_back(n, (within, waits, ()))
            self.sent_back(n, (within, waits, None))
            self.sent_back(n, (waits, within))
            self.sent_back(n, ((within, waits),))

    def test_a_list_in_place_of_a_tuple(self):
        within, waits = ("out", "reads"), ((0, "read", 0, None),)
        self.taken(2, (within, waits))
        self.sent_back(2, [within, waits])
        self.sent_back(2, (list(within), waits))
        self.sent_back(2, (within, list(waits)))
        self.sent_back(2, (within, []))
        self.sent_back(2, (within, (list(waits[0]),)))
        self.sent_back(2, (within, (([0], "read", 0, None),)))

    def test_sixty_deep(self):
        deep = nested(56)
        self.sent_back(1, ((deep,), (deep,)))
        self.sent_back(1, (("out",), ((0, "read", deep, deep),)))
        self.sent_back(1, (("out",), ((deep, deep, 0, None),)))

    def test_what_says_it_is_equal_to_all(self):
        self.sent_back(1, ((Alike(),), ()))
        self.sent_back(1, (("out",), ((Alike(), Alike(), Alike(), Alike()),)))

    def test_what_is_handed_in_is_not_changed(self):
        listed = [["out"], [[0, "read", 0, None]]]
        self.sent_back(1, listed)
        self.sent_back(1, tuple(listed))
        self.sent_back(1, (("out",), listed[1]))
        self.assertEqual(listed, [["out"], [[0, "read", 0, None]]])

    def test_empty(self):
        for n in range(1, 6):
            self.assertEqual(empty(n), (("out",) * n, ()))
            self.assertEqual(empty(n), empty(n))
            self.taken(n, empty(n))
            for other in range(1, 6):
                self.assertIs(is_room(other, empty(n)), other == n)

    def test_of_the_empty_room(self):
        for n in range(1, 6):
            room = empty(n)
            self.assertEqual(readers_in(room), ())
            self.assertIsNone(writer_in(room))
            self.assertEqual([waiting(room, guest) for guest in range(n)], [None] * n)
            for word, most in itertools.product(RULE_WORDS, range(6)):
                self.assertIs(is_safe((word, most, 0, 0), room), True)


class WhoTests(unittest.TestCase):
    def test_readers_in(self):
        self.assertEqual(readers_in((("reads",), ())), (0,))
        self.assertEqual(readers_in((("rising",), ())), (0,))
        self.assertEqual(readers_in((("writes",), ())), ())
        self.assertEqual(readers_in((("raised",), ())), ())
        self.assertEqual(readers_in(MIXED), (1, 3))
        self.assertEqual(readers_in((("rising", "out", "reads", "reads", "rising"), ())), (0, 2, 3, 4))
        self.assertEqual(readers_in((("reads", "raised", "writes", "rising"), ())), (0, 3))

    def test_readers_in_tells_a_tuple(self):
        self.assertIsInstance(readers_in(MIXED), tuple)
        self.assertIsInstance(readers_in(empty(2)), tuple)

    def test_those_that_wait_to_read_do_not_read(self):
        self.assertEqual(readers_in((("out", "writes"), ((0, "read", 0, None),))), ())

    def test_writer_in(self):
        self.assertEqual(writer_in((("writes",), ())), 0)
        self.assertEqual(writer_in((("raised",), ())), 0)
        self.assertIsNone(writer_in((("reads",), ())))
        self.assertIsNone(writer_in((("rising",), ())))
        self.assertIsNone(writer_in(MIXED))
        self.assertEqual(writer_in((("out", "out", "writes"), ())), 2)
        self.assertEqual(writer_in((("out", "out", "out", "out", "raised"), ())), 4)

    def test_the_least_of_several_writers(self):
        self.assertEqual(writer_in((("out", "raised", "writes"), ())), 1)
        self.assertEqual(writer_in((("reads", "writes", "raised"), ())), 1)
        self.assertEqual(writer_in((("writes", "writes"), ())), 0)

    def test_one_that_waits_to_write_does_not_write(self):
        self.assertIsNone(writer_in((("out", "reads"), ((0, "write", 0, None),))))

    def test_waiting(self):
        self.assertEqual(
            [waiting(MIXED, guest) for guest in range(5)], ["read", None, "write", "up", "write"]
        )

    def test_waiting_of_each_word_within(self):
        told = [waiting((WITHIN, ()), guest) for guest in range(5)]
        self.assertEqual(told, [None, None, "up", None, None])

    def test_waiting_of_a_number_that_is_no_guest(self):
        room = (("out", "rising"), ((0, "read", 0, None),))
        for guest in (-2, -1, 2, 5):
            self.assertIsNone(waiting(room, guest))

    def test_nothing_is_changed_and_the_same_is_told_again(self):
        before = copy.deepcopy(MIXED)
        for ask in (readers_in, writer_in):
            self.assertEqual(ask(MIXED), ask(MIXED))
        for guest in range(5):
            self.assertEqual(waiting(MIXED, guest), waiting(MIXED, guest))
        rule = ("passes", 2, 3, 1)
        self.assertIs(is_safe(rule, MIXED), True)
        self.assertIs(is_safe(rule, MIXED), True)
        self.assertEqual(MIXED, before)
        self.assertEqual(rule, ("passes", 2, 3, 1))


class SafeTests(unittest.TestCase):
    def told(self, within, expected, most=0):
        for word, ups in itertools.product(RULE_WORDS, (0, 1)):
            self.assertIs(is_safe((word, most, 0, ups), (within, ())), expected, (within, most))

    def test_one_writer_alone(self):
        for word in ("writes", "raised"):
            self.told((word,), True)
            self.told(("out", word, "out"), True)
            self.told(("out", word, "out"), True, most=1)

    def test_two_writers(self):
        for one, other in itertools.product(("writes", "raised"), repeat=2):
            self.told((one, other), False)
            self.told((one, "out", other), False)

    def test_a_writer_beside_one_that_reads_or_rises(self):
        for one, other in itertools.product(("writes", "raised"), ("reads", "rising")):
            self.told((one, other), False)
            self.told((other, "out", one), False, most=5)

    def test_at_most_one_rises(self):
        self.told(("rising",), True)
        self.told(("reads", "rising", "reads"), True)
        self.told(("rising", "rising"), False)
        self.told(("rising", "reads", "rising"), False, most=5)

    def test_as_many_as_most_lets_and_one_more(self):
        for most in range(1, 5):
            outs = ("out",) * (5 - most)
            self.told(outs + ("reads",) * most, True, most)
            self.told(outs[1:] + ("reads",) * (most + 1), False, most)
            self.told(outs + ("reads",) * (most - 1) + ("rising",), True, most)
            self.told(outs[1:] + ("reads",) * most + ("rising",), False, most)
        self.told(("reads",) * 5, True, most=5)

    def test_most_nought_lets_any(self):
        for n in range(1, 6):
            self.told(("reads",) * n, True)
            self.told(("rising",) + ("reads",) * (n - 1), True)

    def test_who_waits_is_not_within(self):
        waits = ((1, "write", 0, None), (2, "read", 0, None), (3, "write", 0, 1))
        room = (("reads", "out", "out", "out"), waits)
        self.assertIs(is_safe(("rows", 1, 0, 0), room), True)
        room = (("writes", "out", "out", "out"), waits)
        self.assertIs(is_safe(("rows", 1, 0, 0), room), True)

    def test_how_many_rooms_are_safe(self):
        for n, most in itertools.product(range(1, 6), range(6)):
            rule = ("turns", most, 0, 1)
            rooms = [(within, ()) for within in itertools.product(WITHIN, repeat=n)]
            bound = n if most == 0 else min(n, most)
            # So many with r readers of whom none or one rises, and one writer alone of two words.
            reading = sum(math.comb(n, r) * (1 + r) for r in range(bound + 1))
            self.assertEqual(sum(is_safe(rule, room) for room in rooms), reading + 2 * n)


if __name__ == "__main__":
    unittest.main()
