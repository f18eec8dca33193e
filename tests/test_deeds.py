"""Deeds: points 10 and 11."""

import copy
import itertools
import unittest

from model import deeds_of, every_room, every_rule, model_stepped
from oddthings import Alike, Thorny, nested, nested_dict, odd_things, with_part

from manyreaders.deeds import all_deeds, is_deed, may_do, stepped
from manyreaders.errors import NoDeed
from manyreaders.rooms import empty

ROWS = ("rows", 0, 0, 0)
ROWS_UP = ("rows", 0, 0, 1)
TURNS = ("turns", 0, 0, 0)
LEFTS = (None, 0, 1, 2, 3, 4, 5, 6, 7, 8, 9)


def wait(guest, want, mark=0, left=None):
    return (guest, want, mark, left)


def not_deeds(n):
    """Things of many kinds that are no deeds of n guests."""
    things = odd_things() + [None, 0, "tick", "read", b"tick", ["tick"], {"tick"}, {"tick": 0}, ("tick", 0), ("tick", None)]
    things += [("Tick",), ("tick ",), (b"tick",), ("read",), ("up",), ("leave",), ("in", 0), ("out", 0), ("steps", 0)]
    things += [("read", 0), ("write", 0), ("read", 0, None, None), ("write", 0, 1, 1), ("reads", 0, None), ("rise", 0)]
    things += [("up", 0, None), ("down", 0, 0), ("leave", 0, None), ("stop", 0, 1), ("tick", 0, None), ("Read", 0, None)]
    things += [("read", guest, None) for guest in (-1, -n, n, n + 1, 99, None, True, False, "0", 0.0, (0,), [0])]
    things += [("write", 0, left) for left in (-1, 10, 11, 99, True, False, "1", 1.0, "-", (), [None])]
    things += [(word, n) for word in ("up", "down", "leave", "stop")]
    things += [(word, -1) for word in ("up", "down", "leave", "stop")]
    things += [("leave", False), ("stop", True), ("up", None), ("down", "0"), ("up", [0])]
    things += [["read", 0, None], ["leave", 0], (["read", 0, None],), (("read", 0, None),), (("tick",),), {"leave": 0}]
    things += [("read", nested(59), None), ("read", 0, nested(59)), (nested(59), 0), (nested_dict(59),), nested(60, list)]
    things += [(Alike(), 0, None), ("read", Alike(), None), ("read", 0, Alike()), (Alike(),), ("up", Alike())]
    things += [(Thorny(), 0, None), ("write", Thorny(), 0), ("write", 0, Thorny()), (Thorny(),), ("stop", Thorny())]
    return things


class IsDeedTests(unittest.TestCase):
    def told(self, n, thing, expected):
        self.assertIs(is_deed(n, thing), expected)
        self.assertIs(is_deed(n, thing), expected)

    def test_all_deeds_there_are(self):
        for n in range(1, 6):
            for deed in deeds_of(n, LEFTS):
                self.told(n, deed, True)

    def test_guests_beyond(self):
        for n, guest in itertools.product(range(1, 6), range(-6, 8)):
            expected = 0 <= guest < n
            self.told(n, ("read", guest, None), expected)
            self.told(n, ("write", guest, 0), expected)
            for word in ("up", "down", "leave", "stop"):
                self.told(n, (word, guest), expected)

    def test_of_anything(self):
        for n in range(1, 6):
            for thing in not_deeds(n):
                self.told(n, thing, False)

    def test_of_anything_as_a_part(self):
        for deed in (("read", 1, 1), ("write", 1, None), ("up", 1), ("down", 1), ("leave", 1), ("stop", 1), ("tick",)):
            for place, thing in itertools.product(range(len(deed)), odd_things()):
                self.told(2, with_part(deed, place, thing), False)

    def test_a_text_is_no_tuple(self):
        for thing in ("tick", "up", "read", "0 reads", b"tick"):
            self.told(3, thing, False)

    def test_what_is_handed_in_is_not_changed(self):
        listed = ["read", [0], {"left": None}]
        self.told(1, listed, False)
        self.told(1, tuple(listed), False)
        self.assertEqual(listed, ["read", [0], {"left": None}])


class AllDeedsTests(unittest.TestCase):
    def test_of_one_guest(self):
        self.assertEqual(
            all_deeds(1),
            (("read", 0, None), ("write", 0, None), ("up", 0), ("down", 0), ("leave", 0), ("stop", 0)),
        )

    def test_of_two_guests(self):
        self.assertEqual(
            all_deeds(2),
            (
                ("read", 0, None), ("read", 1, None), ("write", 0, None), ("write", 1, None), ("up", 0), ("up", 1),
                ("down", 0), ("down", 1), ("leave", 0), ("leave", 1), ("stop", 0), ("stop", 1),
            ),
        )

    def test_of_many(self):
        for n in range(1, 7):
            told = all_deeds(n)
            self.assertIsInstance(told, tuple)
            self.assertEqual(told, all_deeds(n))
            self.assertEqual(len(set(told)), 6 * n)
            self.assertEqual([deed[1] for deed in told], list(range(n)) * 6)
            self.assertTrue(all(is_deed(n, deed) for deed in told))


class MayDoTests(unittest.TestCase):
    def test_the_empty_room(self):
        for n in range(1, 6):
            self.assertEqual(may_do(n, empty(n)), all_deeds(n)[:2 * n])

    def test_a_room_with_much_in_it(self):
        room = (("reads", "rising", "out", "out"), (wait(3, "write", 0, 1),))
        told = may_do(4, room)
        self.assertIsInstance(told, tuple)
        self.assertEqual(
            told,
            (("read", 2, None), ("write", 2, None), ("up", 0), ("leave", 0), ("leave", 1), ("stop", 1), ("stop", 3)),
        )
        self.assertEqual(told, may_do(4, room))

    def test_those_that_write(self):
        self.assertEqual(may_do(1, (("writes",), ())), (("down", 0), ("leave", 0)))
        self.assertEqual(may_do(1, (("raised",), ())), (("down", 0), ("leave", 0)))

    def test_it_tells_what_can_be_done_and_no_more(self):
        for n in (1, 2, 3):
            for room in every_room(n, marks=(0,)):
                expected = [deed for deed in all_deeds(n) if model_stepped(ROWS_UP, room, deed) is not None]
                self.assertEqual(may_do(n, room), tuple(expected), room)


class StepCase(unittest.TestCase):
    def told(self, rule, room, deed, behind, events):
        n = len(room[0])
        self.assertEqual(stepped(rule, n, room, deed), (behind, events), (rule, room, deed))
        self.assertEqual(stepped(rule, n, room, deed), (behind, events))

    def refused(self, room, deed, rule=ROWS_UP):
        with self.assertRaises(NoDeed) as caught:
            stepped(rule, len(room[0]), room, deed)
        self.assertEqual(caught.exception.place, 0)


class AskTests(StepCase):
    def test_let_in_at_once(self):
        for rule, left in itertools.product(every_rule(), LEFTS):
            self.told(rule, empty(2), ("read", 1, left), (("out", "reads"), ()), (("in", 1),))
            self.told(rule, empty(2), ("write", 0, left), (("writes", "out"), ()), (("in", 0),))

    def test_beside_readers(self):
        room = (("reads", "out"), ())
        self.told(ROWS, room, ("read", 1, None), (("reads", "reads"), ()), (("in", 1),))
        self.told(("rows", 2, 0, 0), room, ("read", 1, 0), (("reads", "reads"), ()), (("in", 1),))

    def test_one_that_waits_is_the_last_with_mark_nought(self):
        room = (("writes", "out", "out"), (wait(2, "read", 1, 3),))
        for rule in every_rule():
            for want, left in itertools.product(("read", "write"), (None, 1, 5, 9)):
                behind = (room[0], room[1] + (wait(1, want, 0, left),))
                self.told(rule, room, (want, 1, left), behind, (("waits", 1),))

    def test_left_nought_that_is_not_let_in(self):
        room = (("writes", "out", "out"), (wait(2, "read", 1, 3),))
        for rule, want in itertools.product(every_rule(), ("read", "write")):
            self.told(rule, room, (want, 1, 0), room, (("no", 1),))
        self.told(("rows", 1, 0, 0), (("reads", "out"), ()), ("read", 1, 0), (("reads", "out"), ()), (("no", 1),))

    def test_behind_one_that_waits_to_write(self):
        room = (("reads", "out", "out"), (wait(1, "write"),))
        waiting = (room[0], room[1] + (wait(2, "read"),))
        read_in = (("reads", "out", "reads"), (wait(1, "write"),))
        self.told(ROWS, room, ("read", 2, None), waiting, (("waits", 2),))
        self.told(("readers", 0, 0, 0), room, ("read", 2, None), read_in, (("in", 2),))
        self.told(("writers", 0, 0, 0), room, ("read", 2, None), waiting, (("waits", 2),))
        self.told(TURNS, room, ("read", 2, None), waiting, (("waits", 2),))
        passed = (("reads", "out", "reads"), (wait(1, "write", 1),))
        self.told(("passes", 0, 1, 0), room, ("read", 2, None), passed, (("in", 2),))
        self.told(("passes", 0, 0, 0), room, ("read", 2, None), waiting, (("waits", 2),))

    def test_passes_until_the_mark_is_k(self):
        rule = ("passes", 0, 3, 0)
        for mark in range(5):
            room = (("reads", "out", "out"), (wait(1, "write", mark),))
            if mark < 3:
                behind = (("reads", "out", "reads"), (wait(1, "write", mark + 1),))
                self.told(rule, room, ("read", 2, 0), behind, (("in", 2),))
            else:
                self.told(rule, room, ("read", 2, 0), room, (("no", 2),))

    def test_while_one_rises(self):
        room = (("rising", "reads", "out"), ())
        for rule in every_rule(mosts=(0, 5)):
            behind = (room[0], (wait(2, "read"),))
            self.told(rule, room, ("read", 2, None), behind, (("waits", 2),))
            self.told(rule, room, ("write", 2, 0), room, (("no", 2),))

    def test_rooms_that_are_not_settled(self):
        # Those that could have gone in long ago go in ahead of the one that asks.
        room = (("out",) * 3, (wait(0, "read"), wait(1, "write")))
        behind = (("reads", "out", "out"), (wait(1, "write"), wait(2, "read", 0, 4)))
        self.told(ROWS, room, ("read", 2, 4), behind, (("in", 0), ("waits", 2)))
        gone = (("reads", "out", "out"), (wait(1, "write"),))
        self.told(ROWS, room, ("read", 2, 0), gone, (("in", 0), ("no", 2)))
        both = (("reads", "out", "reads"), (wait(1, "write"),))
        self.told(("readers", 0, 0, 0), room, ("read", 2, 0), both, (("in", 0), ("in", 2)))

    def test_behind_a_no_nothing_is_settled_once_more(self):
        # By its words the one that asks is just gone; who could go in then waits on.
        room = (("reads", "out", "out"), (wait(1, "read"),))
        self.told(("writers", 0, 0, 0), room, ("write", 2, 0), room, (("no", 2),))

    def test_who_can_not_ask(self):
        for word in ("reads", "rising", "writes", "raised"):
            self.refused(((word,), ()), ("read", 0, None))
            self.refused(((word,), ()), ("write", 0, 0))
        for want in ("read", "write"):
            self.refused((("out", "writes"), (wait(0, "read"),)), (want, 0, None))
            self.refused((("out", "writes"), (wait(0, "write", 3, 3),)), (want, 0, 3))


class UpTests(StepCase):
    def test_with_ups_nought(self):
        for within in (("reads",), ("reads", "reads"), ("reads", "rising"), ("reads", "out")):
            self.told(ROWS, (within, ()), ("up", 0), (within, ()), (("no", 0),))

    def test_alone(self):
        self.told(ROWS_UP, (("reads",), ()), ("up", 0), (("raised",), ()), (("steps", 0),))
        room = (("out", "reads", "out"), (wait(0, "write"),))
        behind = (("out", "raised", "out"), (wait(0, "write"),))
        for rule in every_rule():
            if rule[3] == 1:
                self.told(rule, room, ("up", 1), behind, (("steps", 1),))

    def test_beside_another(self):
        room = (("reads", "reads", "out"), (wait(2, "write"),))
        behind = (("reads", "rising", "out"), (wait(2, "write"),))
        for rule in every_rule(mosts=(0, 2)):
            if rule[3] == 1:
                self.told(rule, room, ("up", 1), behind, (("waits", 1),))

    def test_while_another_one_rises(self):
        room = (("rising", "reads", "reads"), ())
        for rule in every_rule(mosts=(0, 3)):
            self.told(rule, room, ("up", 1), room, (("no", 1),))

    def test_a_no_settles_nothing(self):
        room = (("reads", "out"), (wait(1, "read"),))
        self.told(ROWS, room, ("up", 0), room, (("no", 0),))
        room = (("rising", "reads", "out"), (wait(2, "read"),))
        self.told(ROWS_UP, room, ("up", 1), room, (("no", 1),))

    def test_ahead_of_those_that_wait_in_a_room_that_is_not_settled(self):
        room = (("reads", "out"), (wait(1, "read"),))
        self.told(ROWS_UP, room, ("up", 0), (("raised", "out"), (wait(1, "read"),)), (("steps", 0),))

    def test_who_can_not(self):
        for word in ("out", "rising", "writes", "raised"):
            for rule in (ROWS, ROWS_UP):
                self.refused(((word,), ()), ("up", 0), rule)
        self.refused((("out", "reads"), (wait(0, "read"),)), ("up", 0))


class DownTests(StepCase):
    def test_alone(self):
        for rule, word in itertools.product(every_rule(), ("writes", "raised")):
            self.told(rule, ((word,), ()), ("down", 0), (("reads",), ()), (("down", 0),))

    def test_readers_go_in_behind_it(self):
        for word in ("writes", "raised"):
            room = ((word, "out", "out"), (wait(2, "read"), wait(1, "read")))
            behind = (("reads", "reads", "reads"), ())
            for rule in every_rule(mosts=(0, 3)):
                self.told(rule, room, ("down", 0), behind, (("down", 0), ("in", 2), ("in", 1)))

    def test_no_writer_goes_in_behind_it(self):
        room = (("writes", "out"), (wait(1, "write"),))
        for rule in every_rule():
            self.told(rule, room, ("down", 0), (("reads", "out"), room[1]), (("down", 0),))

    def test_it_counts_for_most(self):
        room = (("writes", "out"), (wait(1, "read"),))
        behind = (("reads", "out"), (wait(1, "read"),))
        for word in ("rows", "readers", "writers"):
            self.told((word, 1, 0, 0), room, ("down", 0), behind, (("down", 0),))

    def test_who_can_not(self):
        for word in ("out", "reads", "rising"):
            self.refused(((word,), ()), ("down", 0))
        self.refused((("out", "writes"), (wait(0, "write"),)), ("down", 0))


class TurnTests(StepCase):
    def test_behind_one_that_wrote_readers_have_mark_one(self):
        room = (("writes", "out", "out", "out"), (wait(1, "write"), wait(2, "read"), wait(3, "read")))
        behind = (("out", "out", "reads", "reads"), (wait(1, "write"),))
        self.told(TURNS, room, ("leave", 0), behind, (("out", 0), ("in", 2), ("in", 3)))
        behind = (("reads", "out", "reads", "reads"), (wait(1, "write"),))
        self.told(TURNS, room, ("down", 0), behind, (("down", 0), ("in", 2), ("in", 3)))

    def test_a_mark_stays_where_most_keeps_one_out(self):
        rule = ("turns", 1, 0, 0)
        room = (("writes", "out", "out", "out"), (wait(1, "write", 0, 2), wait(2, "read"), wait(3, "read", 0, 5)))
        behind = (("out", "out", "reads", "out"), (wait(1, "write", 0, 2), wait(3, "read", 1, 5)))
        self.told(rule, room, ("leave", 0), behind, (("out", 0), ("in", 2)))
        # So that the marked one goes ahead of the writer when the reader leaves.
        last = (("out", "out", "out", "reads"), (wait(1, "write", 0, 2),))
        self.told(rule, behind, ("leave", 2), last, (("out", 2), ("in", 3)))

    def test_behind_a_raised_one_none_has(self):
        rule = ("turns", 0, 0, 1)
        room = (("raised", "out", "out"), (wait(1, "write"), wait(2, "read")))
        self.told(rule, room, ("leave", 0), (("out", "writes", "out"), (wait(2, "read"),)), (("out", 0), ("in", 1)))
        self.told(rule, room, ("down", 0), (("reads", "out", "out"), room[1]), (("down", 0),))

    def test_behind_one_that_read_none_has(self):
        room = (("reads", "out", "out"), (wait(1, "write"), wait(2, "read")))
        behind = (("out", "writes", "out"), (wait(2, "read"),))
        self.told(TURNS, room, ("leave", 0), behind, (("out", 0), ("in", 1)))

    def test_the_mark_is_one_whatever_it_was(self):
        rule = ("turns", 1, 0, 0)
        for mark in (0, 1, 2, 999):
            room = (("writes", "out", "out"), (wait(1, "read", mark), wait(2, "write", mark)))
            behind = (("reads", "out", "out"), (wait(1, "read", 1), wait(2, "write", mark)))
            if mark != 1:
                self.told(rule, room, ("down", 0), behind, (("down", 0),))

    def test_no_other_rule_marks(self):
        for word in ("rows", "readers", "writers", "passes"):
            room = (("writes", "out"), (wait(1, "read"),))
            self.told((word, 1, 0, 0), room, ("down", 0), (("reads", "out"), room[1]), (("down", 0),))

    def test_stops_and_ticks_do_not_mark(self):
        room = (("writes", "out", "out"), (wait(1, "read"), wait(2, "read", 0, 1)))
        behind = (("writes", "out", "out"), (wait(1, "read"),))
        self.told(TURNS, room, ("stop", 2), behind, (("ends", 2),))
        self.told(TURNS, room, ("tick",), behind, (("ends", 2),))


class LeaveTests(StepCase):
    def test_alone(self):
        for rule, word in itertools.product(every_rule(), ("reads", "rising", "writes", "raised")):
            self.told(rule, (("out", word), ()), ("leave", 1), (("out", "out"), ()), (("out", 1),))

    def test_the_last_reader_lets_a_writer_in(self):
        room = (("reads", "out"), (wait(1, "write"),))
        for rule in every_rule():
            self.told(rule, room, ("leave", 0), (("out", "writes"), ()), (("out", 0), ("in", 1)))

    def test_the_last_but_one_lets_a_rising_one_step_up(self):
        room = (("reads", "rising", "out"), (wait(2, "write"),))
        behind = (("out", "raised", "out"), (wait(2, "write"),))
        for rule in every_rule():
            self.told(rule, room, ("leave", 0), behind, (("out", 0), ("steps", 1)))

    def test_one_that_rises_lets_readers_in(self):
        room = (("reads", "rising", "out"), (wait(2, "read"),))
        behind = (("reads", "out", "reads"), ())
        for rule in every_rule(mosts=(0, 2)):
            self.told(rule, room, ("leave", 1), behind, (("out", 1), ("in", 2)))

    def test_where_most_was_reached(self):
        room = (("reads", "reads", "out"), (wait(2, "read"),))
        self.told(("rows", 2, 0, 0), room, ("leave", 0), (("out", "reads", "reads"), ()), (("out", 0), ("in", 2)))

    def test_who_can_not(self):
        self.refused(empty(1), ("leave", 0))
        self.refused((("out", "writes"), (wait(0, "write"),)), ("leave", 0))


class StopTests(StepCase):
    def test_one_that_waits(self):
        room = (("writes", "out", "out"), (wait(1, "read", 4, 4), wait(2, "write", 2)))
        for rule in every_rule():
            self.told(rule, room, ("stop", 1), (room[0], room[1][1:]), (("ends", 1),))
            self.told(rule, room, ("stop", 2), (room[0], room[1][:1]), (("ends", 2),))

    def test_who_waited_behind_goes_in(self):
        room = (("reads", "out", "out"), (wait(1, "write"), wait(2, "read")))
        for rule in every_rule(mosts=(0, 2)):
            self.told(rule, room, ("stop", 1), (("reads", "out", "reads"), ()), (("ends", 1), ("in", 2)))

    def test_one_that_rises_reads_again(self):
        room = (("reads", "rising", "out"), (wait(2, "read"),))
        self.told(ROWS_UP, room, ("stop", 1), (("reads", "reads", "reads"), ()), (("ends", 1), ("in", 2)))
        room = (("reads", "rising", "out"), (wait(2, "write"),))
        self.told(ROWS_UP, room, ("stop", 1), (("reads", "reads", "out"), room[1]), (("ends", 1),))

    def test_who_can_not(self):
        for word in ("out", "reads", "writes", "raised"):
            self.refused(((word, "out"), (wait(1, "read"),)), ("stop", 0))


class TickTests(StepCase):
    def test_where_nobody_waits(self):
        for rule, word in itertools.product(every_rule(), ("out", "reads", "writes", "raised")):
            self.told(rule, ((word,), ()), ("tick",), ((word,), ()), ())

    def test_each_left_is_one_less(self):
        waits = (wait(1, "read", 0, 9), wait(2, "write", 3, None), wait(3, "write", 0, 2))
        behind = (wait(1, "read", 0, 8), wait(2, "write", 3, None), wait(3, "write", 0, 1))
        within = ("writes", "out", "out", "out")
        for rule in every_rule():
            self.told(rule, (within, waits), ("tick",), (within, behind), ())

    def test_those_at_nought_are_gone_in_order(self):
        waits = (wait(3, "read", 0, 1), wait(2, "write", 0, 2), wait(1, "write", 0, 1), wait(4, "read", 0, 1))
        within = ("writes", "out", "out", "out", "out")
        behind = (within, (wait(2, "write", 0, 1),))
        for rule in every_rule():
            self.told(rule, (within, waits), ("tick",), behind, (("ends", 3), ("ends", 1), ("ends", 4)))

    def test_then_it_is_settled(self):
        room = (("reads", "out", "out", "out"), (wait(1, "write", 0, 1), wait(2, "read"), wait(3, "read", 0, 1)))
        behind = (("reads", "out", "reads", "out"), ())
        events = (("ends", 1), ("ends", 3), ("in", 2))
        for rule in every_rule(mosts=(0, 2)):
            self.told(rule, room, ("tick",), behind, events)

    def test_nine_ticks_end_a_wait_of_nine(self):
        room = (("writes", "out"), (wait(1, "read", 0, 9),))
        for step in range(8):
            room, events = stepped(ROWS, 2, room, ("tick",))
            self.assertEqual(events, ())
            self.assertEqual(room[1][0][3], 8 - step)
        self.told(ROWS, room, ("tick",), (("writes", "out"), ()), (("ends", 1),))


class RefusedTests(StepCase):
    def test_of_anything(self):
        for n in range(1, 6):
            for thing in not_deeds(n):
                self.refused(empty(n), thing)

    def test_of_anything_in_a_full_room(self):
        room = (("reads", "rising", "out"), (wait(2, "write"),))
        for thing in not_deeds(3):
            self.refused(room, thing)

    def test_deeds_that_can_not_be_done_by_any_rule(self):
        for rule in every_rule():
            for deed in all_deeds(2)[4:]:
                self.refused(empty(2), deed, rule)

    def test_what_is_handed_in_is_not_changed(self):
        listed = ["read", 0, None]
        self.refused(empty(1), listed)
        self.assertEqual(listed, ["read", 0, None])
        rule = ("turns", 1, 0, 1)
        room = (("writes", "out", "out"), (wait(1, "read", 0, 9), wait(2, "write", 0, None)))
        before = copy.deepcopy((rule, room))
        for deed in (("leave", 0), ("down", 0), ("stop", 1), ("tick",)):
            self.assertEqual(stepped(rule, 3, room, deed), stepped(rule, 3, room, deed))
            may_do(3, room)
        self.assertEqual((rule, room), before)


class AgainstTheModelTests(unittest.TestCase):
    def held(self, n, rules, rooms, deeds):
        for rule, room, deed in itertools.product(rules, rooms, deeds):
            expected = model_stepped(rule, room, deed)
            if expected is None:
                with self.assertRaises(NoDeed) as caught:
                    stepped(rule, n, room, deed)
                self.assertEqual(caught.exception.place, 0)
            else:
                told = stepped(rule, n, room, deed)
                self.assertEqual(told, expected, (rule, room, deed))
                self.assertIsInstance(told[1], tuple)

    def test_all_rooms_of_one_and_two_guests(self):
        for n in (1, 2):
            self.held(n, every_rule(), every_room(n, lefts=(None, 1)), deeds_of(n))

    def test_rooms_of_three_guests(self):
        rules = every_rule(mosts=(0, 2), ks=(0, 2))
        self.held(3, rules, every_room(3, marks=(0, 1)), deeds_of(3, lefts=(None, 0)))


if __name__ == "__main__":
    unittest.main()
