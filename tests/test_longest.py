"""How long one waits: point 19, and (d) of point 3."""

import copy
import itertools
import random
import unittest

from bounds import JUST, ONE_MORE
from model import deeds_of, empty_room, every_rule, model_book, model_stepped

from manyreaders.books import book
from manyreaders.deeds import all_deeds
from manyreaders.errors import TooMany
from manyreaders.longest import longest
from manyreaders.rooms import waiting
from manyreaders.runs import ran, waited
from manyreaders.starving import shows_starving

ROWS = ("rows", 0, 0, 0)
READERS = ("readers", 0, 0, 0)


def wait(guest, want, mark=0, left=None):
    return (guest, want, mark, left)


def waits(room, guest):
    return any(entry[0] == guest for entry in room[1])


def model_cost(events, guest):
    cost = 0
    for word, who in events:
        if word == "in" and who == guest:
            return cost
        cost += word == "in"
    return cost


def model_ranks(rule, n, deeds, guest):
    """The ranks of the rooms of the book, or None where there is no greatest sum."""
    rooms = list(model_book(rule, n, deeds))
    steps = {}
    for room in rooms:
        told = [model_stepped(rule, room, deed) for deed in deeds] if waits(room, guest) else []
        steps[room] = [(model_cost(events, guest), behind) for behind, events in filter(None, told)]
    ranks = dict.fromkeys(rooms, 0)
    greatest = sum(max([cost for cost, behind in row], default=0) for row in steps.values())
    changed = True
    while changed:
        changed = False
        for room in reversed(rooms):
            rank = max([cost + ranks[behind] for cost, behind in steps[room]], default=0)
            if rank != ranks[room]:
                ranks[room], changed = rank, True
            # No row without a ring costs more than each room's dearest deed once.
            if rank > greatest:
                return None
    return tuple(ranks[room] for room in rooms)


class LongestCase(unittest.TestCase):
    def starves(self, rule, n, deeds, guest, thing):
        """Walks the told ring."""
        self.assertEqual(thing[:2], ("starves", guest))
        ahead, again = thing[2:]
        self.assertTrue(set(ahead + again) <= set(deeds))
        room = ran(rule, n, ahead)[0]
        self.assertIn(waiting(room, guest), ("read", "write"))
        for many in range(len(again) + 1):
            self.assertIn(waiting(ran(rule, n, ahead + again[:many])[0], guest), ("read", "write"))
        behind, brought = ran(rule, n, ahead + again)
        self.assertEqual(behind, room)
        events = [event for events in brought[len(ahead):] for event in events]
        self.assertTrue([who for word, who in events if word == "in" and who != guest])
        self.assertIs(shows_starving(rule, n, thing), True)

    def held(self, rule, n, deeds, guest):
        """Holds what is told against the model; tells its word."""
        told = longest(rule, n, deeds, guest)
        ranks = model_ranks(rule, n, deeds, guest)
        if ranks is None:
            self.starves(rule, n, deeds, guest, told)
        else:
            rooms = tuple(model_book(rule, n, deeds))
            self.assertEqual(told, ("within", max(ranks), rooms, ranks), (rule, n, deeds, guest))
            self.assertTrue(all(type(rank) is int for rank in told[3] + told[1:2]))
        self.assertIs(type(told), tuple)
        return told[0]


class WithinTests(LongestCase):
    def test_no_deeds_at_all(self):
        for rule, n in itertools.product(every_rule(), range(1, 6)):
            for guest in range(n):
                self.assertEqual(longest(rule, n, (), guest), ("within", 0, (empty_room(n),), (0,)))

    def test_a_guest_that_never_waits(self):
        deeds = (("read", 0, None), ("read", 1, None), ("write", 2, None), ("leave", 0), ("leave", 1))
        rooms = book(ROWS, 4, deeds)
        self.assertEqual(longest(ROWS, 4, deeds, 3), ("within", 0, rooms, (0,) * len(rooms)))
        for rule in every_rule():
            rooms = book(rule, 1, all_deeds(1))
            self.assertEqual(longest(rule, 1, all_deeds(1), 0), ("within", 0, rooms, (0,) * len(rooms)))

    def test_others_ahead_of_it_and_behind_it_in_one_deed(self):
        deeds = (("write", 1, None), ("read", 2, None), ("read", 0, None), ("read", 3, None), ("leave", 1))
        word, most, rooms, ranks = longest(ROWS, 4, deeds, 0)
        rank = dict(zip(rooms, ranks))
        within = ("out", "writes", "out", "out")
        self.assertEqual((word, most), ("within", 2))
        self.assertEqual(rank[(within, (wait(0, "read"),))], 0)
        self.assertEqual(rank[(within, (wait(0, "read"), wait(2, "read"), wait(3, "read")))], 0)
        self.assertEqual(rank[(within, (wait(2, "read"), wait(0, "read"), wait(3, "read")))], 1)
        self.assertEqual(rank[(within, (wait(2, "read"), wait(3, "read"), wait(0, "read")))], 2)
        # Where it doesn't wait the rank is 0, whatever comes later.
        self.assertEqual(rank[(within, (wait(2, "read"), wait(3, "read")))], 0)
        self.assertEqual(rank[empty_room(4)], 0)

    def test_a_guest_that_may_stop(self):
        deeds = (("read", 1, None), ("write", 0, None), ("read", 2, None))
        self.assertEqual(longest(ROWS, 3, deeds, 0)[1], 0)
        word, most, rooms, ranks = longest(ROWS, 3, deeds + (("stop", 0),), 0)
        rank = dict(zip(rooms, ranks))
        # By its own stop another one is let in: that deed's cost counts.
        room = (("out", "reads", "out"), (wait(0, "write"), wait(2, "read")))
        self.assertEqual((word, most, rank[room]), ("within", 1, 1))
        self.assertEqual(rank[(("out", "reads", "out"), (wait(0, "write"),))], 1)

    def test_a_wait_that_ends_by_a_tick(self):
        deeds = (("read", 1, None), ("write", 0, 1), ("read", 2, None), ("tick",))
        word, most, rooms, ranks = longest(ROWS, 3, deeds, 0)
        rank = dict(zip(rooms, ranks))
        room = (("out", "reads", "out"), (wait(0, "write", 0, 1), wait(2, "read")))
        self.assertEqual((word, most, rank[room]), ("within", 1, 1))

    def test_sums_over_several_deeds(self):
        # Guest 0 waits behind 1, 2 and 3, who write one behind the other.
        deeds = tuple(("write", guest, None) for guest in range(4)) + tuple(("leave", guest) for guest in range(1, 4))
        told = longest(ROWS, 4, deeds, 0)
        self.assertEqual(told[:2], ("within", 2))
        self.assertEqual(longest(("passes", 0, 2, 0), 4, deeds, 0)[:2], ("within", 2))

    def test_rings_that_let_nobody_in(self):
        # Guest 2 asks and stops as often as it likes, by which nobody goes in.
        deeds = (("write", 1, None), ("read", 0, None), ("write", 2, None), ("stop", 2), ("tick",), ("write", 2, 0))
        self.assertEqual(self.held(ROWS, 3, deeds, 0), "within")
        self.assertEqual(longest(ROWS, 3, deeds, 0)[1], 0)
        more = deeds + (("leave", 1),)
        self.assertEqual(self.held(ROWS, 3, more, 0), "within")
        self.assertEqual(longest(ROWS, 3, more, 0)[1], 1)

    def test_rings_in_which_the_guest_does_not_wait(self):
        deeds = tuple(deed for deed in all_deeds(3) if deed[0] not in ("up", "down"))
        self.assertEqual(self.held(ROWS, 3, deeds, 0), "within")
        stops = (("read", 1, None), ("write", 0, None), ("stop", 0), ("read", 2, None), ("leave", 2))
        self.assertEqual(self.held(ROWS, 3, stops, 0), "within")
        self.assertEqual(self.held(READERS, 3, stops, 0), "starves")

    def test_what_is_told(self):
        deeds = (("write", 1, None), ("read", 0, None))
        rooms = (
            empty_room(2), (("out", "writes"), ()), (("reads", "out"), ()),
            (("out", "writes"), (wait(0, "read"),)), (("reads", "out"), (wait(1, "write"),)),
        )
        for guest in (0, 1):
            self.assertEqual(longest(ROWS, 2, deeds, guest), ("within", 0, rooms, (0, 0, 0, 0, 0)))


class StarvesTests(LongestCase):
    def test_by_rules_that_are_not_fair(self):
        for word, want in (("readers", "write"), ("writers", "read")):
            for most, ups in itertools.product(range(4), (0, 1)):
                rule = (word, most, 0, ups)
                for guest in range(3):
                    self.starves(rule, 3, all_deeds(3), guest, longest(rule, 3, all_deeds(3), guest))
                # Who can't ask for what the rule puts behind isn't starved.
                safe = tuple(deed for deed in all_deeds(3) if deed[:2] != (want, 0))
                self.assertEqual(longest(rule, 3, safe, 0)[0], "within")

    def test_by_few_deeds(self):
        deeds = (("read", 1, None), ("write", 0, None), ("read", 2, None), ("leave", 2))
        told = longest(READERS, 3, deeds, 0)
        self.starves(READERS, 3, deeds, 0, told)
        self.assertEqual(longest(READERS, 3, deeds[:3], 0)[:2], ("within", 1))
        self.assertEqual(longest(READERS, 3, deeds, 1)[0], "within")

    def test_where_a_wait_of_so_many_ticks_goes_on(self):
        deeds = (("read", 1, None), ("write", 0, 9), ("read", 2, None), ("leave", 2))
        self.starves(READERS, 3, deeds, 0, longest(READERS, 3, deeds, 0))
        # Each round takes a tick, so the wait ends.
        ticking = (("read", 1, None), ("write", 0, 5), ("read", 2, 1), ("tick",))
        self.assertEqual(self.held(READERS, 3, ticking, 0), "within")

    def test_four_guests(self):
        for rule in (READERS, ("writers", 2, 0, 0)):
            for guest in range(4):
                self.starves(rule, 4, all_deeds(4), guest, longest(rule, 4, all_deeds(4), guest))


class AgainstTheModelTests(LongestCase):
    def test_all_deeds(self):
        words = set()
        for rule, n in itertools.product(every_rule(), range(1, 4)):
            words.add(self.held(rule, n, all_deeds(n), n - 1))
        self.assertEqual(words, {"within", "starves"})

    def test_each_guest(self):
        for rule in every_rule(mosts=(0, 1), ks=(1,)):
            for guest in range(3):
                self.held(rule, 3, all_deeds(3), guest)

    def test_some_deeds(self):
        draw = random.Random(19)
        words = []
        for rule in every_rule(mosts=(0, 1), ks=(0, 1, 3)) * 4:
            deeds = deeds_of(3, lefts=(None, 0, 2))
            draw.shuffle(deeds)
            deeds = tuple(deeds[:draw.randrange(8, 22)])
            if len(model_book(rule, 3, deeds)) <= 400:
                words.append(self.held(rule, 3, deeds, draw.randrange(3)))
        self.assertGreater(words.count("within"), 20)
        self.assertGreater(words.count("starves"), 3)

    def test_four_guests(self):
        for rule in (ROWS, ("turns", 2, 0, 0), ("passes", 0, 1, 0)):
            deeds = tuple(deed for deed in all_deeds(4) if deed[0] in ("read", "write", "leave", "stop") and deed[1:] != (3,))
            self.held(rule, 4, deeds, 0)

    def test_five_guests(self):
        deeds = (("read", 1, None), ("write", 0, None)) + tuple(("read", guest, None) for guest in (2, 3, 4))
        deeds += tuple(("leave", guest) for guest in (1, 2, 3, 4))
        self.assertEqual(self.held(("passes", 0, 2, 0), 5, deeds, 0), "within")
        self.assertEqual(self.held(("readers", 1, 0, 0), 5, deeds, 0), "starves")

    def test_rows_that_are_walked_keep_to_the_ranks(self):
        draw = random.Random(191)
        for rule in every_rule(ks=(2,)):
            deeds, guest = all_deeds(3), 1
            told = longest(rule, 3, deeds, guest)
            if told[0] != "within":
                continue
            rank = dict(zip(told[2], told[3]))
            room, row, begun, cost = empty_room(3), [], None, 0
            for step in range(300):
                able = [deed for deed in deeds if model_stepped(rule, room, deed) is not None]
                row.append(draw.choice(able))
                behind, events = model_stepped(rule, room, row[-1])
                if waits(room, guest):
                    begun = room if begun is None else begun
                    cost += model_cost(events, guest)
                    self.assertLessEqual(cost, rank[begun])
                if not waits(behind, guest):
                    begun, cost = None, 0
                room = behind
            others = [entry[2] for entry in waited(rule, 3, tuple(row)) if entry[0] == guest]
            self.assertLessEqual(max(others, default=0), told[1])


class BoundTests(LongestCase):
    def test_just_as_many_rooms(self):
        rule, n, deeds = JUST
        for guest in range(n):
            told = longest(rule, n, deeds, guest)
            if told[0] == "within":
                self.assertEqual(told[2], book(rule, n, deeds))
                self.assertEqual(len(told[3]), 2000)
                self.assertEqual(told[1], max(told[3]))
        self.held(rule, n, deeds, 3)

    def test_one_more_and_many_more(self):
        for rule, n, deeds in (ONE_MORE, (ROWS, 5, all_deeds(5)), (READERS, 5, all_deeds(5))):
            for guest in range(n):
                with self.assertRaises(TooMany):
                    longest(rule, n, deeds, guest)

    def test_a_long_chain_of_rooms(self):
        # Waits that end one tick at a time: rooms that lead one to the other, hundreds deep.
        deeds = (("write", 0, None), ("tick",)) + tuple(("read", guest, 9) for guest in (1, 2, 3))
        self.assertEqual(self.held(ROWS, 4, deeds, 1), "within")


class AgainTests(LongestCase):
    def test_nothing_is_changed_and_the_same_is_told_again(self):
        for rule in (("passes", 2, 3, 1), ("readers", 1, 0, 0)):
            deeds = all_deeds(3) + (("tick",),)
            before = copy.deepcopy((rule, deeds))
            self.assertEqual(longest(rule, 3, deeds, 0), longest(rule, 3, deeds, 0))
            self.assertEqual((rule, deeds), before)


if __name__ == "__main__":
    unittest.main()
