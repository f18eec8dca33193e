"""Who goes in next, and settled rooms: points 7, 8 and 9."""

import copy
import itertools
import unittest

from model import House, every_room, every_rule

from manyreaders.doors import can_go, next_in, settled

WORDS = ("rows", "readers", "writers", "turns", "passes")
OUT3 = ("out",) * 3


def wait(guest, want, mark=0, left=None):
    return (guest, want, mark, left)


class CanGoTests(unittest.TestCase):
    def told(self, within, waits, guest, expected, most=0):
        for word, ups in itertools.product(WORDS, (0, 1)):
            rule = (word, most, 0, ups)
            self.assertIs(can_go(rule, (within, waits), guest), expected, (rule, within, waits, guest))
            self.assertIs(can_go(rule, (within, waits), guest), expected)

    def test_to_read_where_nobody_is_within(self):
        for most in range(6):
            self.told(("out",), (wait(0, "read"),), 0, True, most)

    def test_to_read_beside_those_that_read(self):
        self.told(("out", "reads"), (wait(0, "read"),), 0, True)
        self.told(("reads", "reads", "reads", "reads", "out"), (wait(4, "read"),), 4, True)

    def test_to_read_where_most_is_just_reached(self):
        for most in range(1, 5):
            reads = ("out",) + ("reads",) * (most - 1)
            self.told(reads, (wait(0, "read"),), 0, True, most)
            self.told(reads + ("reads",), (wait(0, "read"),), 0, False, most)

    def test_to_read_beside_one_that_writes_is_raised_or_rises(self):
        for word in ("writes", "raised", "rising"):
            for most in (0, 1, 5):
                self.told(("out", word), (wait(0, "read"),), 0, False, most)
                self.told((word, "out", "out"), (wait(1, "write"), wait(2, "read")), 2, False, most)
        self.told(("out", "rising", "reads"), (wait(0, "read"),), 0, False, 5)

    def test_to_write(self):
        self.told(("out", "out"), (wait(0, "write"),), 0, True)
        self.told(("out",), (wait(0, "write"),), 0, True, 1)
        for word in ("reads", "rising", "writes", "raised"):
            self.told(("out", word), (wait(0, "write"),), 0, False)
            self.told((word, "out", "out"), (wait(2, "write"),), 2, False, 5)

    def test_one_that_rises_alone(self):
        self.told(("rising",), (), 0, True)
        self.told(("out", "rising", "out"), (wait(0, "read"), wait(2, "write")), 1, True, 1)

    def test_one_that_rises_beside_another(self):
        for word in ("reads", "rising", "writes", "raised"):
            self.told(("rising", word), (), 0, False)
            self.told((word, "out", "rising"), (), 2, False, 5)

    def test_the_order_of_waits_and_their_marks_are_not_asked(self):
        waits = (wait(0, "write", 9), wait(1, "read"), wait(2, "read", 999))
        for guest in range(3):
            self.told(OUT3, waits, guest, True)

    def test_of_others(self):
        for word in ("out", "reads", "writes", "raised"):
            self.told((word,), (), 0, False)
            self.told((word, "out"), (wait(1, "read"),), 0, False)

    def test_of_a_number_that_is_no_guest(self):
        for guest in (-1, 3, 9):
            self.told(("rising", "out", "rising"), (wait(1, "read"),), guest, False)
            self.told(OUT3, (wait(1, "read"),), guest, False)


class NextTests(unittest.TestCase):
    def told(self, rule, within, waits, expected):
        self.assertEqual(next_in(rule, (within, tuple(waits))), expected, (rule, within, waits))
        self.assertEqual(next_in(rule, (within, tuple(waits))), expected)

    def test_nobody_waits(self):
        for rule, word in itertools.product(every_rule(), ("out", "reads", "rising", "writes", "raised")):
            self.told(rule, (word,), (), None)
            self.told(rule, (word, "out"), (), None)

    def test_one_that_waits_alone_and_can(self):
        for rule, want in itertools.product(every_rule(), ("read", "write")):
            for mark in (0, 1, 2, 999):
                self.told(rule, ("out",), (wait(0, want, mark),), 0)

    def test_rows(self):
        rule = ("rows", 0, 0, 0)
        self.told(rule, OUT3, (wait(2, "write"), wait(0, "read"), wait(1, "read")), 2)
        self.told(rule, OUT3, (wait(1, "read"), wait(0, "write")), 1)
        self.told(rule, ("reads", "out", "out"), (wait(2, "write"), wait(1, "read")), None)
        self.told(rule, ("reads", "out", "out"), (wait(1, "read"), wait(2, "write")), 1)
        self.told(rule, ("reads", "out", "out"), (wait(2, "write", 0), wait(1, "read", 1)), None)
        self.told(("rows", 1, 0, 0), ("reads", "out"), (wait(1, "read"),), None)
        self.told(("rows", 2, 0, 0), ("reads", "out"), (wait(1, "read"),), 1)

    def test_readers(self):
        rule = ("readers", 0, 0, 0)
        self.told(rule, OUT3, (wait(2, "write"), wait(0, "read"), wait(1, "read")), 0)
        self.told(rule, OUT3, (wait(2, "write"), wait(0, "write")), 2)
        self.told(rule, ("reads", "out", "out"), (wait(2, "write"), wait(1, "read")), 1)
        self.told(rule, ("reads", "out", "out"), (wait(2, "write"), wait(1, "write")), None)
        self.told(rule, ("writes", "out", "out"), (wait(2, "write"), wait(1, "read")), None)
        self.told(rule, ("rising", "out", "out"), (wait(1, "read"),), None)
        self.told(("readers", 1, 0, 0), ("reads", "out", "out"), (wait(2, "write"), wait(1, "read")), None)

    def test_writers(self):
        rule = ("writers", 0, 0, 0)
        self.told(rule, OUT3, (wait(2, "read"), wait(0, "read"), wait(1, "write")), 1)
        self.told(rule, OUT3, (wait(2, "read"), wait(0, "read")), 2)
        self.told(rule, OUT3, (wait(2, "write"), wait(0, "write")), 2)
        self.told(rule, ("reads", "out", "out"), (wait(2, "read"), wait(1, "write")), None)
        self.told(rule, ("reads", "out", "out"), (wait(2, "read"), wait(1, "read")), 2)
        self.told(rule, OUT3, (wait(2, "read", 1), wait(1, "write")), 1)
        self.told(("writers", 1, 0, 0), ("reads", "out", "out"), (wait(2, "read"),), None)

    def test_turns_where_none_has_mark_one(self):
        rule = ("turns", 0, 0, 0)
        self.told(rule, OUT3, (wait(2, "read"), wait(0, "read"), wait(1, "write")), 1)
        self.told(rule, OUT3, (wait(2, "read"), wait(0, "read")), 2)
        self.told(rule, ("reads", "out", "out"), (wait(2, "read"), wait(1, "write")), None)
        self.told(rule, OUT3, (wait(2, "read", 2), wait(1, "write", 0)), 1)

    def test_turns_where_some_have_mark_one(self):
        rule = ("turns", 0, 0, 0)
        self.told(rule, OUT3, (wait(1, "write"), wait(2, "read", 0), wait(0, "read", 1)), 0)
        self.told(rule, OUT3, (wait(1, "write"), wait(2, "read", 1), wait(0, "read", 1)), 2)
        self.told(rule, ("reads", "out", "out"), (wait(1, "write"), wait(2, "read", 1)), 2)
        self.told(rule, ("writes", "out", "out"), (wait(1, "write"), wait(2, "read", 1)), None)
        self.told(rule, OUT3, (wait(0, "read", 1), wait(1, "write", 1)), 0)
        self.told(rule, OUT3, (wait(1, "write", 1), wait(0, "read", 1)), 1)

    def test_turns_where_the_one_with_mark_one_can_not(self):
        self.told(("turns", 1, 0, 0), ("reads", "out", "out"), (wait(2, "read", 1), wait(1, "read")), None)
        # Behind the marked one another could go in, but it is the marked one that is asked.
        self.told(("turns", 0, 0, 0), ("reads", "out", "out"), (wait(2, "write", 1), wait(1, "read")), None)

    def test_passes_takes_the_first_that_can(self):
        rule = ("passes", 0, 1, 0)
        self.told(rule, OUT3, (wait(2, "write"), wait(0, "read")), 2)
        self.told(rule, ("reads", "out", "out"), (wait(2, "write"), wait(1, "read")), 1)
        self.told(rule, ("reads", "out", "out"), (wait(2, "write"), wait(1, "write")), None)
        self.told(rule, ("writes", "out", "out"), (wait(2, "write"), wait(1, "read")), None)

    def test_passes_by_marks_nought_one_below_k_and_k(self):
        within = ("reads", "out", "out")
        for k in range(10):
            rule = ("passes", 0, k, 0)
            for mark in (0, 1, k - 1, k, k + 1, 999):
                if mark >= 0:
                    waits = (wait(2, "write", mark), wait(1, "read"))
                    self.told(rule, within, waits, 1 if mark < k else None)

    def test_passes_asks_each_one_ahead(self):
        rule = ("passes", 0, 2, 0)
        within = ("reads", "out", "out", "out")
        for one, two in itertools.product(range(4), repeat=2):
            waits = (wait(1, "write", one), wait(2, "write", two), wait(3, "read"))
            self.told(rule, within, waits, 3 if one < 2 and two < 2 else None)

    def test_passes_does_not_ask_the_mark_of_the_one_that_goes_in(self):
        self.told(("passes", 0, 1, 0), ("reads", "out", "out"), (wait(2, "write", 0), wait(1, "read", 9)), 1)
        self.told(("passes", 0, 0, 0), ("reads", "out"), (wait(1, "read", 9),), 1)

    def test_passes_does_not_ask_those_behind(self):
        self.told(("passes", 0, 1, 0), ("reads", "out", "out"), (wait(1, "read"), wait(2, "write", 9)), 1)


class SettledTests(unittest.TestCase):
    def told(self, rule, room, behind, events):
        self.assertEqual(settled(rule, room), (behind, events), (rule, room))
        self.assertEqual(settled(rule, behind), (behind, ()), (rule, behind))

    def test_the_empty_room(self):
        for rule, n in itertools.product(every_rule(), range(1, 6)):
            room = (("out",) * n, ())
            self.told(rule, room, room, ())

    def test_kinds(self):
        told = settled(("rows", 0, 0, 0), (("out",), (wait(0, "read"),)))
        self.assertEqual(told, ((("reads",), ()), (("in", 0),)))
        self.assertIsInstance(told, tuple)
        self.assertIsInstance(told[1], tuple)
        self.assertIsInstance(told[1][0], tuple)

    def test_rows_up_to_the_first_that_can_not(self):
        room = (("out",) * 4, (wait(3, "read"), wait(1, "read", 5, 2), wait(0, "write"), wait(2, "read")))
        behind = (("out", "reads", "out", "reads"), (wait(0, "write"), wait(2, "read")))
        self.told(("rows", 0, 0, 0), room, behind, (("in", 3), ("in", 1)))

    def test_most_just_reached(self):
        room = (OUT3, (wait(2, "read"), wait(1, "read"), wait(0, "read", 0, 4)))
        behind = (("out", "reads", "reads"), (wait(0, "read", 0, 4),))
        self.told(("rows", 2, 0, 0), room, behind, (("in", 2), ("in", 1)))

    def test_readers_go_ahead_of_writers(self):
        room = (OUT3, (wait(0, "write"), wait(2, "read"), wait(1, "read")))
        behind = (("out", "reads", "reads"), (wait(0, "write"),))
        self.told(("readers", 0, 0, 0), room, behind, (("in", 2), ("in", 1)))

    def test_a_writer_goes_ahead_of_readers(self):
        room = (OUT3, (wait(2, "read"), wait(0, "write"), wait(1, "write")))
        behind = (("writes", "out", "out"), (wait(2, "read"), wait(1, "write")))
        self.told(("writers", 0, 0, 0), room, behind, (("in", 0),))

    def test_turns_by_mark_one(self):
        waits = (wait(0, "write"), wait(3, "read", 1), wait(1, "read", 0), wait(2, "read", 1))
        behind = (("out", "out", "reads", "reads"), (wait(0, "write"), wait(1, "read", 0)))
        self.told(("turns", 0, 0, 0), (("out",) * 4, waits), behind, (("in", 3), ("in", 2)))

    def test_passes_marks_each_one_that_stood_ahead(self):
        waits = (wait(1, "write", 0, 3), wait(2, "read"), wait(3, "write", 1), wait(4, "read"))
        room = (("reads", "out", "out", "out", "out"), waits)
        behind = (
            ("reads", "out", "reads", "out", "reads"),
            (wait(1, "write", 2, 3), wait(3, "write", 2)),
        )
        self.told(("passes", 0, 3, 0), room, behind, (("in", 2), ("in", 4)))

    def test_passes_until_a_mark_is_k(self):
        waits = (wait(1, "write"), wait(2, "read"), wait(3, "read"), wait(4, "read"))
        room = (("reads", "out", "out", "out", "out"), waits)
        behind = (
            ("reads", "out", "reads", "reads", "out"),
            (wait(1, "write", 2), wait(4, "read")),
        )
        self.told(("passes", 0, 2, 0), room, behind, (("in", 2), ("in", 3)))
        self.told(("passes", 0, 0, 0), room, room, ())

    def test_no_mark_grows_by_another_rule(self):
        room = (("reads", "out", "out"), (wait(1, "write", 3), wait(2, "read")))
        behind = (("reads", "out", "reads"), (wait(1, "write", 3),))
        self.told(("readers", 0, 0, 0), room, behind, (("in", 2),))
        turned = (("reads", "out", "out"), (wait(1, "write", 0), wait(2, "read", 1)))
        behind = (("reads", "out", "reads"), (wait(1, "write", 0),))
        self.told(("turns", 0, 0, 0), turned, behind, (("in", 2),))

    def test_one_that_rises_alone_steps_up_ahead_of_all(self):
        room = (("rising", "out", "out"), (wait(1, "read", 1), wait(2, "write")))
        behind = (("raised", "out", "out"), (wait(1, "read", 1), wait(2, "write")))
        for rule in every_rule():
            self.told(rule, room, behind, (("steps", 0),))

    def test_one_that_rises_beside_another_keeps_all_out(self):
        room = (("rising", "out", "reads"), (wait(1, "read", 1),))
        for rule in every_rule():
            self.told(rule, room, room, ())

    def test_two_that_rise(self):
        room = (("rising", "rising"), ())
        for rule in every_rule():
            self.told(rule, room, room, ())

    def test_a_writer_alone_ends_the_settling(self):
        room = (OUT3, (wait(1, "write"), wait(0, "write"), wait(2, "read")))
        behind = (("out", "writes", "out"), (wait(0, "write"), wait(2, "read")))
        for rule in every_rule():
            if rule[0] != "readers":
                self.told(rule, room, behind, (("in", 1),))

    def test_lefts_stay(self):
        room = (OUT3, (wait(1, "write", 0, 1), wait(0, "write", 0, 9), wait(2, "read", 0, 2)))
        behind = (("out", "writes", "out"), (wait(0, "write", 0, 9), wait(2, "read", 0, 2)))
        self.told(("rows", 0, 0, 0), room, behind, (("in", 1),))


class AgainstTheModelTests(unittest.TestCase):
    def test_all_small_rooms_by_all_rules(self):
        for n in (1, 2, 3):
            rooms = every_room(n)
            for rule, room in itertools.product(every_rule(), rooms):
                house = House(rule, room)
                self.assertEqual(next_in(rule, room), house.next(), (rule, room))
                house.settle()
                self.assertEqual(settled(rule, room), (house.room(), tuple(house.events)), (rule, room))

    def test_who_can_go_in_all_small_rooms(self):
        for n in (1, 2, 3):
            for rule, room in itertools.product(every_rule(ks=(1,)), every_room(n, marks=(0,))):
                house = House(rule, room)
                told = [can_go(rule, room, guest) for guest in range(n)]
                self.assertEqual(told, [house.can(guest) for guest in range(n)], (rule, room))

    def test_settled_again_nothing_comes(self):
        for rule, room in itertools.product(every_rule(), every_room(2)):
            behind = settled(rule, room)[0]
            self.assertEqual(settled(rule, behind), (behind, ()))

    def test_what_is_handed_in_is_not_changed(self):
        rule = ("passes", 2, 3, 1)
        room = (("reads", "out", "out", "rising"), (wait(1, "write", 2, 9), wait(2, "read", 0, None)))
        before = copy.deepcopy((rule, room))
        for ask in (next_in, settled):
            self.assertEqual(ask(rule, room), ask(rule, room))
        for guest in range(4):
            self.assertEqual(can_go(rule, room, guest), can_go(rule, room, guest))
        self.assertEqual((rule, room), before)


if __name__ == "__main__":
    unittest.main()
