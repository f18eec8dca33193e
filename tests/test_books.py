"""Books of rooms: point 15."""

import copy
import itertools
import random
import unittest

from bounds import JUST, ONE_MORE
from model import deeds_of, every_rule, model_book, model_stepped

from manyreaders.books import book, tally, way_to
from manyreaders.deeds import all_deeds
from manyreaders.errors import TooMany
from manyreaders.rooms import empty, guests_with, is_room, readers_in
from manyreaders.runs import ran

ROWS = ("rows", 0, 0, 0)
ASKS = (
    book,
    tally,
    lambda rule, n, deeds: way_to(rule, n, deeds, empty(n)),
    lambda rule, n, deeds: way_to(rule, n, deeds, (("reads",) + ("out",) * (n - 1), ())),
    lambda rule, n, deeds: way_to(rule, n, deeds, (("writes",) * n, ())),
)


def some_deeds(n, draw):
    """Some deeds of n guests, in any order, with ticks and lefts among them."""
    deeds = deeds_of(n, lefts=(None, 0, 2))
    draw.shuffle(deeds)
    return tuple(deeds[:draw.randrange(len(deeds) + 1)])


class BookTests(unittest.TestCase):
    def test_no_deeds_at_all(self):
        for rule, n in itertools.product(every_rule(), range(1, 6)):
            self.assertEqual(book(rule, n, ()), (empty(n),))
            self.assertEqual(way_to(rule, n, (), empty(n)), ())
            self.assertIsNone(way_to(rule, n, (), (("reads",) + ("out",) * (n - 1), ())))
            self.assertEqual(tally(rule, n, ()), {(0, 0, 0): 1})

    def test_of_one_guest(self):
        told = book(("rows", 0, 0, 1), 1, all_deeds(1))
        self.assertIsInstance(told, tuple)
        self.assertEqual(told, ((("out",), ()), (("reads",), ()), (("writes",), ()), (("raised",), ())))
        self.assertEqual(book(ROWS, 1, all_deeds(1)), told[:3])

    def test_in_the_order_in_which_they_are_come_to(self):
        deeds = (("write", 0, None), ("read", 1, None), ("leave", 1))
        self.assertEqual(
            book(ROWS, 2, deeds),
            (
                empty(2),
                (("writes", "out"), ()),
                (("out", "reads"), ()),
                (("writes", "out"), ((1, "read", 0, None),)),
                (("out", "reads"), ((0, "write", 0, None),)),
            ),
        )
        turned = (("leave", 1), ("read", 1, None), ("write", 0, None))
        self.assertEqual(
            book(ROWS, 2, turned),
            (
                empty(2),
                (("out", "reads"), ()),
                (("writes", "out"), ()),
                (("out", "reads"), ((0, "write", 0, None),)),
                (("writes", "out"), ((1, "read", 0, None),)),
            ),
        )

    def test_by_ticks_and_lefts(self):
        deeds = (("write", 0, None), ("read", 1, 2), ("read", 1, 0), ("tick",))
        self.assertEqual(
            book(ROWS, 2, deeds),
            (
                empty(2),
                (("writes", "out"), ()),
                (("out", "reads"), ()),
                (("writes", "out"), ((1, "read", 0, 2),)),
                (("out", "reads"), ((0, "write", 0, None),)),
                (("writes", "out"), ((1, "read", 0, 1),)),
            ),
        )

    def test_how_many_there_are_by_all_deeds(self):
        told = [len(book(ROWS, n, all_deeds(n))) for n in range(1, 5)]
        self.assertEqual(told, [3, 12, 68, 528])
        told = [len(book(("readers", 2, 0, 1), n, all_deeds(n))) for n in range(1, 5)]
        self.assertEqual(told, [len(model_book(("readers", 2, 0, 1), n, all_deeds(n))) for n in range(1, 5)])

    def test_as_the_model_by_all_deeds(self):
        for rule, n in itertools.product(every_rule(), range(1, 4)):
            self.assertEqual(book(rule, n, all_deeds(n)), tuple(model_book(rule, n, all_deeds(n))), (rule, n))

    def test_as_the_model_by_some_deeds(self):
        draw = random.Random(15)
        for rule in every_rule():
            deeds = some_deeds(3, draw)
            rows = model_book(rule, 3, deeds)
            if len(rows) <= 2000:
                self.assertEqual(book(rule, 3, deeds), tuple(rows), (rule, deeds))

    def test_guests_that_do_nothing(self):
        rooms = book(ROWS, 5, (("read", 4, None), ("leave", 4)))
        self.assertEqual(rooms, (empty(5), (("out", "out", "out", "out", "reads"), ())))

    def test_it_is_closed(self):
        for rule in every_rule(ks=(2,)):
            rooms = book(rule, 3, all_deeds(3))
            self.assertEqual(rooms[0], empty(3))
            self.assertEqual(len(set(rooms)), len(rooms))
            known = set(rooms)
            for room, deed in itertools.product(rooms, all_deeds(3)):
                self.assertTrue(is_room(3, room))
                told = model_stepped(rule, room, deed)
                self.assertTrue(told is None or told[0] in known)


class BoundTests(unittest.TestCase):
    def refused(self, rule, n, deeds):
        for ask in ASKS:
            with self.assertRaises(TooMany):
                ask(rule, n, deeds)

    def test_just_as_many(self):
        rule, n, deeds = JUST
        rows = model_book(rule, n, deeds)
        self.assertEqual(len(rows), 2000)
        rooms = book(rule, n, deeds)
        self.assertEqual(rooms, tuple(rows))
        self.assertEqual(way_to(rule, n, deeds, rooms[-1]), rows[rooms[-1]])
        self.assertIsNone(way_to(rule, n, deeds, (("writes",) * n, ())))
        self.assertEqual(sum(tally(rule, n, deeds).values()), 2000)

    def test_one_more(self):
        rule, n, deeds = ONE_MORE
        self.assertEqual(len(model_book(rule, n, deeds)), 2001)
        self.refused(rule, n, deeds)

    def test_many_more(self):
        for rule in every_rule():
            self.refused(rule, 5, all_deeds(5))
        self.refused(("passes", 0, 3, 1), 4, all_deeds(4))

    def test_sixty_deeds(self):
        deeds = tuple(deeds_of(3, lefts=(None, 0, 1, 2, 3, 4, 5, 6)))[1:]
        self.assertEqual(len(deeds), 60)
        rows = model_book(ROWS, 3, deeds)
        self.assertEqual(book(ROWS, 3, deeds), tuple(rows))
        self.assertEqual(sum(tally(ROWS, 3, deeds).values()), len(rows))
        self.refused(("passes", 0, 9, 1), 3, deeds)

    def test_asks_that_differ_in_their_lefts_alone(self):
        lefts = tuple((want, 0, left) for want in ("read", "write") for left in range(10))
        self.assertEqual(book(ROWS, 2, lefts), (empty(2), (("reads", "out"), ()), (("writes", "out"), ())))


class WayTests(unittest.TestCase):
    def test_to_the_empty_room(self):
        self.assertEqual(way_to(ROWS, 3, all_deeds(3), empty(3)), ())

    def test_the_shortest(self):
        told = way_to(("rows", 0, 0, 1), 2, all_deeds(2), (("raised", "out"), ()))
        self.assertEqual(told, (("read", 0, None), ("up", 0)))
        self.assertIsInstance(told, tuple)

    def test_the_first_of_several_as_long_ones(self):
        both = (("reads", "reads"), ())
        first, second = ("read", 0, None), ("read", 1, None)
        self.assertEqual(way_to(ROWS, 2, (first, second), both), (first, second))
        self.assertEqual(way_to(ROWS, 2, (second, first), both), (second, first))
        # By size the shorter row goes ahead, though its first deed stands behind in the told deeds.
        deeds = (("write", 0, None), ("down", 0), ("read", 0, None))
        self.assertEqual(way_to(ROWS, 1, deeds, (("reads",), ())), (("read", 0, None),))

    def test_the_first_deed_counts_ahead_of_the_second(self):
        deeds = (("read", 0, 5), ("read", 0, None), ("write", 1, 9), ("write", 1, None))
        room = (("reads", "out"), ((1, "write", 0, None),))
        self.assertEqual(way_to(ROWS, 2, deeds, room), (("read", 0, 5), ("write", 1, None)))

    def test_no_row_leads_there(self):
        self.assertIsNone(way_to(ROWS, 2, all_deeds(2), (("raised", "out"), ())))
        self.assertIsNone(way_to(ROWS, 2, all_deeds(2), (("writes", "writes"), ())))
        self.assertIsNone(way_to(ROWS, 2, all_deeds(2), (("writes", "out"), ((1, "read", 0, 3),))))
        self.assertIsNone(way_to(ROWS, 2, all_deeds(2), (("writes", "out"), ((1, "read", 1, None),))))
        self.assertIsNone(way_to(ROWS, 2, all_deeds(2), (("out", "out"), ((1, "read", 0, None),))))
        self.assertIsNone(way_to(ROWS, 2, all_deeds(2)[:2], (("writes", "out"), ())))

    def test_as_the_model(self):
        draw = random.Random(16)
        for rule in every_rule(mosts=(0, 1), ks=(0, 2)):
            deeds = list(all_deeds(3)) + [("tick",), ("read", 0, 1)]
            draw.shuffle(deeds)
            deeds = tuple(deeds[:16])
            rows = model_book(rule, 3, deeds)
            for room in draw.sample(list(rows), min(12, len(rows))):
                told = way_to(rule, 3, deeds, room)
                self.assertEqual(told, rows[room])
                self.assertEqual(ran(rule, 3, told)[0], room)

    def test_no_row_ahead_by_size_leads_there(self):
        deeds = (("write", 1, None), ("read", 0, None), ("read", 1, None), ("leave", 1), ("leave", 0), ("write", 0, 1))
        firsts = {}
        for many in range(4):
            for row in itertools.product(deeds, repeat=many):
                room = empty(2)
                for deed in row:
                    told = room and model_stepped(ROWS, room, deed)
                    room = told[0] if told else None
                if room:
                    firsts.setdefault(room, row)
        for room, row in firsts.items():
            self.assertEqual(way_to(ROWS, 2, deeds, room), row)
        self.assertGreater(len(firsts), 8)


class TallyTests(unittest.TestCase):
    def test_of_one_guest(self):
        told = tally(("rows", 0, 0, 1), 1, all_deeds(1))
        self.assertEqual(told, {(0, 0, 0): 1, (1, 0, 0): 1, (0, 1, 0): 2})
        self.assertIs(type(told), dict)

    def test_of_two_guests(self):
        # Out or reading each, one writing and nobody else within, and who waits beside that.
        self.assertEqual(
            tally(ROWS, 2, all_deeds(2)),
            {(0, 0, 0): 1, (1, 0, 0): 2, (2, 0, 0): 1, (0, 1, 0): 2, (1, 0, 1): 2, (0, 1, 1): 4},
        )

    def test_a_rising_one_reads(self):
        told = tally(("rows", 0, 0, 1), 2, (("read", 0, None), ("read", 1, None), ("up", 0)))
        self.assertEqual(told, {(0, 0, 0): 1, (1, 0, 0): 2, (2, 0, 0): 2, (0, 1, 0): 1, (0, 1, 1): 1})

    def test_as_the_book_counted(self):
        for rule in every_rule(ks=(1,)):
            counts = {}
            for room in book(rule, 3, all_deeds(3)):
                writers = len(guests_with(room, ("writes", "raised")))
                key = (len(readers_in(room)), writers, len(room[1]))
                counts[key] = counts.get(key, 0) + 1
            self.assertEqual(tally(rule, 3, all_deeds(3)), counts)
            self.assertNotIn(0, counts.values())

    def test_a_told_dict_is_the_asker_s_own(self):
        told = tally(ROWS, 2, all_deeds(2))
        kept = dict(told)
        told.clear()
        told[(9, 9, 9)] = 9
        self.assertEqual(tally(ROWS, 2, all_deeds(2)), kept)


class AgainTests(unittest.TestCase):
    def test_nothing_is_changed_and_the_same_is_told_again(self):
        rule, deeds = ("passes", 2, 3, 1), all_deeds(3) + (("tick",),)
        room = (("reads", "out", "reads"), ())
        before = copy.deepcopy((rule, deeds, room))
        self.assertEqual(book(rule, 3, deeds), book(rule, 3, deeds))
        self.assertEqual(way_to(rule, 3, deeds, room), way_to(rule, 3, deeds, room))
        self.assertEqual(tally(rule, 3, deeds), tally(rule, 3, deeds))
        self.assertEqual(list(tally(rule, 3, deeds)), list(tally(rule, 3, deeds)))
        self.assertEqual((rule, deeds, room), before)


if __name__ == "__main__":
    unittest.main()
