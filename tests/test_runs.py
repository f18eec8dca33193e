"""Runs: points 12, 13 and 14."""

import copy
import functools
import itertools
import random
import unittest

from model import every_rule, model_stepped, walk
from oddthings import odd_things

from manyreaders.deeds import all_deeds, stepped
from manyreaders.errors import NoDeed
from manyreaders.rooms import empty
from manyreaders.runs import pages, ran, waited

ROWS = ("rows", 0, 0, 0)
ROWS_UP = ("rows", 0, 0, 1)
LONG = (
    ("read", 0, None), ("read", 1, None), ("write", 2, None), ("up", 0), ("leave", 1), ("tick",),
    ("down", 0), ("leave", 0), ("write", 0, 2), ("read", 1, 0), ("tick",), ("down", 2), ("tick",), ("leave", 2),
)
ASKS = (ran, pages, waited)


@functools.lru_cache(maxsize=None)
def some_rows():
    """(rule, n, row): rows of all kinds of deeds, by rules of each word and of one to five guests."""
    draw = random.Random(20261117)
    return [
        (rule, n, walk(rule, n, 40, draw.choice))
        for rule, n in itertools.product(every_rule(ks=(0, 1, 3)), range(1, 6))
    ]


def model_run(rule, n, row):
    """The rooms ahead of each deed, the last room, and each deed's events."""
    rooms, brought = [empty(n)], []
    for deed in row:
        room, events = model_stepped(rule, rooms[-1], deed)
        rooms.append(room)
        brought.append(events)
    return rooms, brought


def model_pages(rule, n, row):
    rooms, brought = model_run(rule, n, row)
    number, told, wants = 0, [], {}
    for room, deed, events in zip(rooms, row, brought):
        if deed[0] in ("read", "write"):
            wants[deed[1]] = deed[0]
        for word, guest in events:
            if word in ("out", "down") and room[0][guest] in ("writes", "raised"):
                number += 1
            if word in ("in", "steps"):
                told.append((guest, wants[guest] if word == "in" else "up", number))
    return tuple(told)


def model_waited(rule, n, row):
    rooms, brought = model_run(rule, n, row)
    told, open_at = [], {}
    for deed, events in zip(row, brought):
        for word, guest in events:
            if word == "waits" and deed[0] != "up":
                open_at[guest] = len(told)
                told.append([guest, deed[0], 0, None])
            if word in ("in", "ends") and guest in open_at:
                told[open_at.pop(guest)][3] = word
            if word == "in":
                for at in open_at.values():
                    told[at][2] += 1
    return tuple(tuple(entry) for entry in told)


class RanTests(unittest.TestCase):
    def test_an_empty_row(self):
        for rule, n in itertools.product(every_rule(), range(1, 6)):
            self.assertEqual(ran(rule, n, ()), (empty(n), ()))
            self.assertEqual(pages(rule, n, ()), ())
            self.assertEqual(waited(rule, n, ()), ())

    def test_a_long_row(self):
        room, brought = ran(ROWS_UP, 3, LONG)
        self.assertEqual(
            brought,
            (
                (("in", 0),),
                (("in", 1),),
                (("waits", 2),),
                (("waits", 0),),
                (("out", 1), ("steps", 0)),
                (),
                (("down", 0),),
                (("out", 0), ("in", 2)),
                (("waits", 0),),
                (("no", 1),),
                (),
                (("down", 2),),
                (("ends", 0),),
                (("out", 2),),
            ),
        )
        self.assertEqual(room, empty(3))
        self.assertIsInstance(brought, tuple)

    def test_one_deed(self):
        self.assertEqual(ran(ROWS, 1, (("write", 0, 0),)), ((("writes",), ()), ((("in", 0),),)))

    def test_as_stepped_deed_by_deed(self):
        for rule, n, row in some_rows():
            room, brought = empty(n), []
            for deed in row:
                room, events = stepped(rule, n, room, deed)
                brought.append(events)
            self.assertEqual(ran(rule, n, row), (room, tuple(brought)))

    def test_as_the_model(self):
        for rule, n, row in some_rows():
            rooms, brought = model_run(rule, n, row)
            self.assertEqual(ran(rule, n, row), (rooms[-1], tuple(brought)))

    def test_four_hundred_deeds(self):
        row = (("read", 0, None), ("write", 1, 3), ("tick",), ("leave", 0), ("leave", 1)) * 80
        room, brought = ran(ROWS, 2, row)
        self.assertEqual(room, empty(2))
        self.assertEqual(len(brought), 400)
        self.assertEqual(pages(ROWS, 2, row)[-1], (1, "write", 79))
        self.assertEqual(waited(ROWS, 2, row), ((1, "write", 0, "in"),) * 80)


class RefusedTests(unittest.TestCase):
    def refused(self, row, place, n=3):
        for ask, rule in itertools.product(ASKS, (ROWS, ROWS_UP, ("passes", 2, 3, 1), ("turns", 1, 0, 0))):
            with self.assertRaises(NoDeed) as caught:
                ask(rule, n, row)
            self.assertEqual(caught.exception.place, place)
            self.assertNotIsInstance(caught.exception.place, bool)

    def test_no_deed_at_each_place(self):
        row = (("read", 0, None), ("tick",), ("leave", 0), ("write", 1, 3), ("down", 1))
        for place in range(len(row) + 1):
            for thing in odd_things() + [None, 0, "tick", ["tick"], ("read", 3, None), ("read", -1, None), ("read", 0, 10)]:
                self.refused(row[:place] + (thing,) + row[place:], place)

    def test_what_can_not_be_done_at_each_place(self):
        row = (("read", 0, None), ("tick",), ("leave", 0), ("write", 1, 3), ("down", 1))
        for place in range(len(row) + 1):
            self.refused(row[:place] + (("stop", 2),) + row[place:], place)

    def test_one_alone(self):
        self.refused((("leave", 0),), 0)
        self.refused((None,), 0)
        self.refused(((),), 0)

    def test_of_two_the_first(self):
        row = (("read", 0, None), ("down", 0), ("leave", 0), None, ("leave", 2))
        self.refused(row, 1)
        self.refused((["tick"],) + row, 0)
        self.refused((("tick",), ("tick",), {"tick"}, ("stop", 0), {}), 2)
        self.refused((("tick",), ("tick",), ("stop", 0), {"tick"}, {}), 2)

    def test_it_hangs_on_what_was_done_ahead(self):
        self.refused((("read", 0, None), ("leave", 0), ("leave", 0)), 2)
        self.refused((("write", 0, None), ("read", 1, 1), ("tick",), ("stop", 1)), 3)
        self.refused((("read", 0, None), ("read", 0, None)), 1)

    def test_what_is_handed_in_is_not_changed(self):
        listed = ["read", 0, None]
        self.refused((("tick",), listed), 1)
        self.assertEqual(listed, ["read", 0, None])


class PagesTests(unittest.TestCase):
    def told(self, rule, n, row, expected):
        self.assertEqual(pages(rule, n, row), expected)

    def test_readers_write_no_page(self):
        row = (("read", 0, None), ("read", 1, None), ("leave", 0), ("leave", 1), ("read", 0, None))
        self.told(ROWS, 2, row, ((0, "read", 0), (1, "read", 0), (0, "read", 0)))

    def test_one_that_writes_and_leaves(self):
        row = (("write", 0, None), ("leave", 0), ("read", 1, None), ("leave", 1), ("write", 1, None))
        self.told(ROWS, 2, row, ((0, "write", 0), (1, "read", 1), (1, "write", 1)))

    def test_a_step_down_counts_once(self):
        row = (("write", 0, None), ("down", 0), ("leave", 0), ("read", 1, None))
        self.told(ROWS, 2, row, ((0, "write", 0), (1, "read", 1)))

    def test_a_raised_one_counts(self):
        row = (("read", 0, None), ("up", 0), ("down", 0), ("up", 0), ("leave", 0), ("read", 1, None))
        self.told(ROWS_UP, 2, row, ((0, "read", 0), (0, "up", 0), (0, "up", 1), (1, "read", 2)))

    def test_a_step_up_refused_is_none(self):
        row = (("read", 0, None), ("up", 0), ("leave", 0), ("read", 1, None))
        self.told(ROWS, 2, row, ((0, "read", 0), (1, "read", 0)))

    def test_the_leaving_in_the_same_deed_counts(self):
        row = (("write", 0, None), ("read", 1, None), ("leave", 0))
        self.told(ROWS, 2, row, ((0, "write", 0), (1, "read", 1)))
        row = (("write", 0, None), ("read", 1, None), ("read", 2, None), ("down", 0))
        self.told(ROWS, 3, row, ((0, "write", 0), (1, "read", 1), (2, "read", 1)))

    def test_one_that_rises_and_leaves_writes_no_page(self):
        row = (("read", 0, None), ("read", 1, None), ("up", 0), ("leave", 0), ("up", 1))
        self.told(ROWS_UP, 2, row, ((0, "read", 0), (1, "read", 0), (1, "up", 0)))

    def test_the_want_of_one_that_waited(self):
        row = (("read", 0, None), ("write", 1, None), ("read", 2, None), ("leave", 0), ("leave", 1))
        self.told(ROWS, 3, row, ((0, "read", 0), (1, "write", 0), (2, "read", 1)))

    def test_who_ends_its_wait_meets_no_page(self):
        row = (("write", 0, None), ("read", 1, 1), ("tick",), ("read", 1, 0), ("write", 1, 2), ("stop", 1), ("leave", 0))
        self.told(ROWS, 2, row, ((0, "write", 0),))

    def test_a_long_row(self):
        expected = ((0, "read", 0), (1, "read", 0), (0, "up", 0), (2, "write", 1))
        self.told(ROWS_UP, 3, LONG, expected)
        self.assertIsInstance(pages(ROWS_UP, 3, LONG), tuple)

    def test_as_the_model(self):
        met = set()
        for rule, n, row in some_rows():
            expected = model_pages(rule, n, row)
            self.told(rule, n, row, expected)
            met.update(word for guest, word, number in expected)
        self.assertEqual(met, {"read", "write", "up"})


class WaitedTests(unittest.TestCase):
    def told(self, rule, n, row, expected):
        self.assertEqual(waited(rule, n, row), expected)

    def test_who_goes_in_at_once_does_not_wait(self):
        self.told(ROWS, 2, (("read", 0, None), ("read", 1, 0), ("leave", 0)), ())

    def test_in_still_and_ends(self):
        row = (("write", 0, None), ("read", 1, None), ("write", 2, 1))
        self.told(ROWS, 3, row, ((1, "read", 0, None), (2, "write", 0, None)))
        self.told(ROWS, 3, row + (("leave", 0),), ((1, "read", 0, "in"), (2, "write", 1, None)))
        self.told(ROWS, 3, row + (("tick",),), ((1, "read", 0, None), (2, "write", 0, "ends")))
        self.told(ROWS, 3, row + (("stop", 1),), ((1, "read", 0, "ends"), (2, "write", 0, None)))
        row += (("leave", 0), ("tick",))
        self.told(ROWS, 3, row, ((1, "read", 0, "in"), (2, "write", 1, "ends")))

    def test_others_of_the_same_deed_count_only_ahead(self):
        row = (("write", 0, None), ("read", 1, None), ("read", 2, None), ("read", 3, None), ("leave", 0))
        self.told(ROWS, 4, row, ((1, "read", 0, "in"), (2, "read", 1, "in"), (3, "read", 2, "in")))

    def test_others_behind_an_end_do_not_count(self):
        row = (("read", 0, None), ("write", 1, 1), ("read", 2, None), ("tick",))
        self.told(ROWS, 3, row, ((1, "write", 0, "ends"), (2, "read", 0, "in")))
        row = (("read", 0, None), ("write", 1, None), ("read", 2, None), ("stop", 1))
        self.told(ROWS, 3, row, ((1, "write", 0, "ends"), (2, "read", 0, "in")))

    def test_one_goes_in_often_ahead_of_another(self):
        rule = ("readers", 0, 0, 0)
        row = (("read", 0, None), ("write", 1, None)) + (("read", 2, None), ("leave", 2)) * 5
        self.told(rule, 3, row, ((1, "write", 5, None),))
        self.told(rule, 3, row + (("leave", 0),), ((1, "write", 5, "in"),))

    def test_those_in_ahead_of_its_wait_do_not_count(self):
        row = (("read", 0, None), ("read", 1, None), ("write", 2, None), ("leave", 0), ("leave", 1))
        self.told(ROWS, 3, row, ((2, "write", 0, "in"),))

    def test_steps_do_not_count(self):
        row = (("read", 0, None), ("write", 1, None), ("up", 0), ("leave", 0))
        self.told(ROWS_UP, 2, row, ((1, "write", 0, "in"),))

    def test_one_that_waits_to_step_up_is_not_told(self):
        row = (("read", 0, None), ("read", 1, None), ("up", 0), ("stop", 0), ("up", 1), ("leave", 0))
        self.told(ROWS_UP, 2, row, ())

    def test_a_no_is_no_wait(self):
        self.told(ROWS, 2, (("write", 0, None), ("read", 1, 0), ("write", 1, 0)), ())

    def test_one_waits_twice(self):
        row = (("write", 0, None), ("read", 1, None), ("stop", 1), ("write", 1, None), ("leave", 0))
        self.told(ROWS, 2, row, ((1, "read", 0, "ends"), (1, "write", 0, "in")))

    def test_a_later_going_in_is_not_the_wait_s_end(self):
        row = (("write", 0, None), ("read", 1, 1), ("tick",), ("leave", 0), ("read", 2, None), ("read", 1, None))
        self.told(ROWS, 3, row, ((1, "read", 0, "ends"),))

    def test_a_long_row(self):
        self.told(ROWS_UP, 3, LONG, ((2, "write", 0, "in"), (0, "write", 0, "ends")))
        self.assertIsInstance(waited(ROWS_UP, 3, LONG), tuple)

    def test_as_the_model(self):
        met, most = set(), 0
        for rule, n, row in some_rows():
            expected = model_waited(rule, n, row)
            self.told(rule, n, row, expected)
            met.update(how for guest, want, others, how in expected)
            most = max([most] + [others for guest, want, others, how in expected])
        self.assertEqual(met, {"in", "ends", None})
        self.assertGreater(most, 2)


class AgainTests(unittest.TestCase):
    def test_nothing_is_changed_and_the_same_is_told_again(self):
        rule = ("passes", 2, 3, 1)
        before = copy.deepcopy((rule, LONG))
        for ask in ASKS:
            self.assertEqual(ask(rule, 3, LONG), ask(rule, 3, LONG))
        self.assertEqual((rule, LONG), before)

    def test_told_deeds_may_be_handed_in_again(self):
        row = all_deeds(2)[:2] + all_deeds(2)[8:10]
        self.assertEqual(ran(ROWS, 2, row)[0], empty(2))


if __name__ == "__main__":
    unittest.main()
