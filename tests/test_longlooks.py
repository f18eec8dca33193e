"""A look at how long one waits: point 20, and (d) of point 3."""

import copy
import itertools
import random
import unittest

from bounds import JUST
from model import House, deeds_of, empty_room, every_rule, model_book, model_stepped
from oddthings import Alike, Thorny, nested, nested_dict, odd_things, with_part

from manyreaders.books import book
from manyreaders.deeds import all_deeds
from manyreaders.longest import longest
from manyreaders.longlooks import shows_longest
from manyreaders.rooms import is_safe
from manyreaders.starving import starving

ROWS = ("rows", 0, 0, 0)
READERS = ("readers", 0, 0, 0)
AHEAD = (("read", 1, None), ("write", 0, None))
AGAIN = (("read", 2, None), ("leave", 2))
RING = ("starves", 0, AHEAD, AGAIN)
RING_DEEDS = AHEAD + AGAIN
# Guest 0 waits behind guest 2 while guest 1 writes: by the leaving both go in.
BEHIND_DEEDS = (("write", 1, None), ("read", 2, None), ("read", 0, None), ("leave", 1))
BEHIND_ROOM = (("out", "writes", "out"), ((2, "read", 0, None), (0, "read", 0, None)))


def waits(room, guest):
    return any(entry[0] == guest for entry in room[1])


def model_cost(events, guest):
    cost = 0
    for word, who in events:
        if word == "in" and who == guest:
            return cost
        cost += word == "in"
    return cost


def model_shows(rule, n, deeds, guest, most, rooms, ranks):
    """What the document asks of ("within", ..) of well-formed rooms and of numbers."""
    if len(set(rooms)) != len(rooms) or empty_room(n) not in rooms or len(ranks) != len(rooms):
        return False
    if min(ranks) < 0 or most < max(ranks):
        return False
    rank = dict(zip(rooms, ranks))
    for room in rooms:
        house = House(rule, room)
        house.settle()
        if house.events or not is_safe(rule, room):
            return False
        for told in [model_stepped(rule, room, deed) for deed in deeds]:
            if told is not None and told[0] not in rank:
                return False
            if told is not None and waits(room, guest):
                behind, events = told
                if rank[room] < model_cost(events, guest) + (rank[behind] if waits(behind, guest) else 0):
                    return False
    return True


class LookTests(unittest.TestCase):
    def told(self, rule, n, deeds, guest, thing, expected):
        self.assertIs(shows_longest(rule, n, deeds, guest, thing), expected)
        self.assertIs(shows_longest(rule, n, deeds, guest, thing), expected)


class ToldTests(LookTests):
    def test_what_longest_tells_by_all_deeds(self):
        words = set()
        for rule, n in itertools.product(every_rule(), range(1, 4)):
            guest = n - 1
            thing = longest(rule, n, all_deeds(n), guest)
            words.add(thing[0])
            self.told(rule, n, all_deeds(n), guest, thing, True)
        self.assertEqual(words, {"within", "starves"})

    def test_what_it_tells_of_four_and_five_guests(self):
        for rule in every_rule(mosts=(0, 2), ks=(1,)):
            for n, chosen in ((4, (0, 2, 3)), (5, (0, 2, 4))):
                deeds = tuple(deed for deed in all_deeds(n) if deed[1] in chosen)
                self.told(rule, n, deeds, chosen[1], longest(rule, n, deeds, chosen[1]), True)
        for rule in (READERS, ("writers", 2, 0, 0)):
            self.told(rule, 4, all_deeds(4), 3, longest(rule, 4, all_deeds(4), 3), True)

    def test_by_some_deeds_in_an_order_of_their_own(self):
        draw = random.Random(20)
        words = []
        for rule in every_rule(mosts=(0, 1), ks=(0, 1, 3)) * 2:
            deeds = deeds_of(3, lefts=(None, 0, 2))
            draw.shuffle(deeds)
            deeds = tuple(deeds[:draw.randrange(4, 22)])
            if len(model_book(rule, 3, deeds)) <= 300:
                guest = draw.randrange(3)
                thing = longest(rule, 3, deeds, guest)
                words.append(thing[0])
                self.told(rule, 3, deeds, guest, thing, True)
        self.assertIn("within", words)
        self.assertIn("starves", words)

    def test_no_deeds_and_deeds_that_can_never_be_done(self):
        for n in range(1, 6):
            for deeds in ((), (("leave", 0),), (("stop", 0), ("down", 0), ("up", 0))):
                self.told(ROWS, n, deeds, 0, ("within", 0, (empty_room(n),), (0,)), True)
                self.told(ROWS, n, deeds, 0, ("within", 3, (empty_room(n),), (2,)), True)
                self.told(ROWS, n, deeds, 0, ("within", 0, (), ()), False)

    def test_a_book_of_just_2000_rooms(self):
        rule, n, deeds = JUST
        told = [longest(rule, n, deeds, guest) for guest in range(n)]
        self.assertEqual({len(thing[2]) for thing in told if thing[0] == "within"}, {2000})
        self.told(rule, n, deeds, 3, told[3], True)


class WithinTests(LookTests):
    def papers(self):
        """Papers of several rules with some rank above 0."""
        some = all_deeds(3) + (("tick",), ("write", 2, 2))
        for rule in every_rule(mosts=(0, 1), ks=(1,)):
            for deeds in (tuple(deed for deed in some if deed[0] not in ("up", "down")), some[::-1]):
                thing = longest(rule, 3, deeds, 0)
                if thing[0] == "within":
                    yield rule, deeds, thing

    def test_there_are_some(self):
        many = [max(thing[3]) for rule, deeds, thing in self.papers()]
        self.assertGreater(len(many), 8)
        self.assertNotIn(0, many)

    def test_ranks_greater_than_need_be(self):
        for rule, deeds, (word, most, rooms, ranks) in self.papers():
            more = tuple(rank + 7 if waits(room, 0) else rank for room, rank in zip(rooms, ranks))
            twice = tuple(rank * 2 for rank in ranks)
            self.told(rule, 3, deeds, 0, (word, most + 7, rooms, more), True)
            self.told(rule, 3, deeds, 0, (word, most + 6, rooms, more), False)
            self.told(rule, 3, deeds, 0, (word, most * 2, rooms, twice), True)
            self.told(rule, 3, deeds, 0, (word, 10 ** 40, rooms, tuple(rank + 10 ** 39 for rank in ranks)), True)

    def test_one_rank_one_less(self):
        for rule, deeds, (word, most, rooms, ranks) in self.papers():
            for place in [place for place, rank in enumerate(ranks) if waits(rooms[place], 0)][::5]:
                less = with_part(ranks, place, ranks[place] - 1)
                self.told(rule, 3, deeds, 0, (word, most, rooms, less), False)

    def test_most_equal_to_the_greatest_and_one_less(self):
        for rule, deeds, (word, most, rooms, ranks) in self.papers():
            self.assertEqual(most, max(ranks))
            self.told(rule, 3, deeds, 0, (word, most + 1, rooms, ranks), True)
            self.told(rule, 3, deeds, 0, (word, most - 1, rooms, ranks), False)
            self.told(rule, 3, deeds, 0, (word, 0, rooms, ranks), False)
            self.told(rule, 3, deeds, 0, (word, -1, rooms, ranks), False)

    def test_ranks_where_the_guest_does_not_wait(self):
        rooms = book(ROWS, 1, all_deeds(1))
        zeros = (0,) * len(rooms)
        for place in range(len(rooms)):
            self.told(ROWS, 1, all_deeds(1), 0, ("within", 5, rooms, with_part(zeros, place, 5)), True)
            self.told(ROWS, 1, all_deeds(1), 0, ("within", 4, rooms, with_part(zeros, place, 5)), False)
            self.told(ROWS, 1, all_deeds(1), 0, ("within", 5, rooms, with_part(zeros, place, -1)), False)

    def test_in_another_order(self):
        draw = random.Random(201)
        for rule, deeds, (word, most, rooms, ranks) in self.papers():
            both = list(zip(rooms, ranks))
            draw.shuffle(both)
            moved = tuple(room for room, rank in both)
            self.told(rule, 3, deeds, 0, (word, most, moved, tuple(rank for room, rank in both)), True)
            self.told(rule, 3, deeds, 0, (word, most, rooms[::-1], ranks), False)
            self.told(rule, 3, deeds, 0, (word, most, rooms, ranks[::-1]), False)

    def test_more_rooms_than_need_be(self):
        for rule, deeds, thing in self.papers():
            self.told(rule, 3, deeds[:-2], 0, thing, True)
            self.told(rule, 3, (), 0, thing, True)
        rooms = book(ROWS, 1, all_deeds(1)) + ((("raised",), ()),)
        self.told(ROWS, 1, all_deeds(1), 0, ("within", 0, rooms, (0,) * len(rooms)), True)

    def test_rooms_left_out_told_twice_or_spoilt(self):
        rule = ("passes", 0, 1, 0)
        word, most, rooms, ranks = longest(rule, 3, all_deeds(3), 0)
        for place in range(0, len(rooms), 7):
            fewer = rooms[:place] + rooms[place + 1:]
            self.told(rule, 3, all_deeds(3), 0, (word, most, fewer, ranks[:place] + ranks[place + 1:]), False)
            twice = (word, most, rooms + rooms[place:place + 1], ranks + ranks[place:place + 1])
            self.told(rule, 3, all_deeds(3), 0, twice, False)
            for spoilt in (list(rooms[place]), rooms[place][:1], rooms[place] + ((),), None):
                self.told(rule, 3, all_deeds(3), 0, (word, most, with_part(rooms, place, spoilt), ranks), False)
        unsafe = (("writes", "reads", "out"), ())
        unsettled = (("out", "out", "out"), ((1, "read", 0, None),))
        for room in (unsafe, unsettled):
            self.told(rule, 3, (), 0, ("within", most, rooms + (room,), ranks + (0,)), False)

    def test_as_many_ranks_as_rooms(self):
        word, most, rooms, ranks = longest(ROWS, 2, all_deeds(2), 0)
        self.told(ROWS, 2, all_deeds(2), 0, (word, most, rooms, ranks), True)
        for other in (ranks + (0,), ranks[:-1], ranks[1:], ()):
            self.told(ROWS, 2, all_deeds(2), 0, (word, most, rooms, other), False)

    def test_another_guest(self):
        word, most, rooms, ranks = longest(ROWS, 3, BEHIND_DEEDS, 0)
        self.assertEqual(dict(zip(rooms, ranks))[BEHIND_ROOM], 1)
        self.told(ROWS, 3, BEHIND_DEEDS, 0, (word, most, rooms, ranks), True)
        self.told(ROWS, 3, BEHIND_DEEDS, 1, (word, most, rooms, ranks), True)
        self.told(ROWS, 3, BEHIND_DEEDS, 2, (word, most, rooms, ranks), False)

    def test_a_guest_that_goes_in_by_the_last_deed(self):
        word, most, rooms, ranks = longest(ROWS, 3, BEHIND_DEEDS, 0)
        place = rooms.index(BEHIND_ROOM)
        # One goes in ahead of it: that is the cost, and none of what comes when it is within.
        self.told(ROWS, 3, BEHIND_DEEDS, 0, (word, 1, rooms, with_part(ranks, place, 0)), False)
        other = (BEHIND_ROOM[0], BEHIND_ROOM[1][::-1])
        self.assertEqual(ranks[rooms.index(other)], 0)

    def test_one_whose_wait_ends_by_the_last_deed(self):
        asks = (("read", 1, None), ("read", 2, None))
        for ask, end in ((("write", 0, None), ("stop", 0)), (("write", 0, 1), ("tick",))):
            deeds = asks + (ask, end)
            word, most, rooms, ranks = longest(ROWS, 3, deeds, 0)
            room = (("out", "reads", "out"), ((0, "write", 0, ask[2]), (2, "read", 0, None)))
            self.assertEqual((most, ranks[rooms.index(room)]), (1, 1))
            self.told(ROWS, 3, deeds, 0, (word, most, rooms, ranks), True)
            self.told(ROWS, 3, deeds, 0, (word, most, rooms, with_part(ranks, rooms.index(room), 0)), False)
            self.told(ROWS, 3, deeds[:3], 0, (word, most, rooms, (0,) * len(rooms)), True)

    def test_by_a_rule_that_starves_there_are_no_ranks(self):
        rooms = book(READERS, 3, RING_DEEDS)
        for ranks in ((0,) * len(rooms), (9,) * len(rooms), tuple(range(len(rooms))), tuple(range(len(rooms)))[::-1]):
            self.told(READERS, 3, RING_DEEDS, 0, ("within", 99, rooms, ranks), False)

    def test_as_the_document_asks(self):
        draw = random.Random(202)
        answers = []
        for rule, deeds, (word, most, rooms, ranks) in self.papers():
            for step in range(12):
                others = list(ranks)
                for change in range(draw.randrange(4)):
                    others[draw.randrange(len(others))] += draw.choice((-1, 1, 2))
                moved = list(rooms)
                if draw.randrange(4) == 0:
                    at, to = draw.sample(range(len(moved)), 2)
                    moved[at], moved[to] = moved[to], moved[at]
                guest, highest = draw.choice((0, 0, 1)), most + draw.choice((0, 1, 2))
                expected = model_shows(rule, 3, deeds, guest, highest, tuple(moved), tuple(others))
                answers.append(expected)
                self.told(rule, 3, deeds, guest, ("within", highest, tuple(moved), tuple(others)), expected)
        self.assertGreater(answers.count(True), 10)
        self.assertGreater(answers.count(False), 10)


class StarvesTests(LookTests):
    def test_a_ring(self):
        self.told(READERS, 3, RING_DEEDS, 0, RING, True)
        self.told(READERS, 3, RING_DEEDS[::-1], 0, RING, True)
        self.told(READERS, 5, all_deeds(5), 0, RING, True)
        self.told(ROWS, 3, RING_DEEDS, 0, RING, False)

    def test_longer_rows_than_need_be(self):
        self.told(READERS, 3, RING_DEEDS, 0, ("starves", 0, AHEAD + AGAIN * 4, AGAIN * 9), True)
        ticks = (("tick",),) * 400
        self.told(READERS, 3, RING_DEEDS + (("tick",),), 0, ("starves", 0, ticks + AHEAD, AGAIN + ticks), True)

    def test_what_starving_tells(self):
        for word, n in itertools.product(("readers", "writers"), (3, 4, 5)):
            rule = (word, 2, 0, 1)
            thing = starving(rule, n)
            self.told(rule, n, all_deeds(n), thing[1], thing, True)
            self.told(rule, n, all_deeds(n), thing[1] + 1, thing, False)
        # ("never", ..) is no paper here.
        self.told(ROWS, 3, all_deeds(3), 0, starving(ROWS, 3), False)
        self.told(ROWS, 3, all_deeds(3), 0, starving(ROWS, 3) + (1,), False)

    def test_another_guest(self):
        self.told(READERS, 3, RING_DEEDS, 1, RING, False)
        self.told(READERS, 3, RING_DEEDS, 2, RING, False)
        for guest in (1, 2, 3, -1, None, False, 0.0, "0"):
            self.told(READERS, 3, RING_DEEDS, 0, with_part(RING, 1, guest), False)
        self.told(READERS, 3, RING_DEEDS, 1, with_part(RING, 1, True), False)

    def test_a_deed_that_is_none_of_these(self):
        for place in range(len(RING_DEEDS)):
            self.told(READERS, 3, RING_DEEDS[:place] + RING_DEEDS[place + 1:], 0, RING, False)
        self.told(READERS, 3, all_deeds(3)[1:], 0, RING, True)
        self.told(READERS, 3, RING_DEEDS, 0, ("starves", 0, (("tick",),) + AHEAD, AGAIN), False)
        self.told(READERS, 3, RING_DEEDS, 0, ("starves", 0, AHEAD, AGAIN + (("tick",),)), False)
        self.told(READERS, 3, RING_DEEDS, 0, ("starves", 0, (("read", 1, None), ("write", 0, 9)), AGAIN), False)

    def test_a_deed_that_can_not_be_done(self):
        for place in range(3):
            wrong = AHEAD[:place] + (("leave", 2),) + AHEAD[place:]
            self.told(READERS, 3, RING_DEEDS, 0, ("starves", 0, wrong, AGAIN), False)
        self.told(READERS, 3, RING_DEEDS, 0, ("starves", 0, AHEAD, AGAIN[::-1]), False)
        self.told(READERS, 3, RING_DEEDS, 0, ("starves", 0, AHEAD, AGAIN[:1] * 2 + AGAIN[1:]), False)

    def test_rows_that_do_not_starve(self):
        self.told(READERS, 3, RING_DEEDS, 0, ("starves", 0, AHEAD, ()), False)
        self.told(READERS, 3, RING_DEEDS, 0, ("starves", 0, (), AHEAD), False)
        self.told(READERS, 3, RING_DEEDS, 0, ("starves", 0, AHEAD, AGAIN[:1]), False)
        self.told(READERS, 3, RING_DEEDS, 0, ("starves", 0, AHEAD[:1], AGAIN), False)

    def test_never_both(self):
        draw = random.Random(203)
        for rule in every_rule(mosts=(0, 1), ks=(1,)):
            deeds = all_deeds(3)
            thing = longest(rule, 3, deeds, 0)
            rings = [longest(other, 3, deeds, 0) for other in every_rule(mosts=(0, 1), ks=(1,))]
            rings = [ring for ring in rings if ring[0] == "starves"]
            if thing[0] == "within":
                for ring in rings:
                    self.told(rule, 3, deeds, 0, ring, False)
            else:
                rooms = book(rule, 3, deeds)
                for step in range(4):
                    ranks = tuple(draw.randrange(40) for room in rooms)
                    self.told(rule, 3, deeds, 0, ("within", 40, rooms, ranks), False)


class AnythingTests(LookTests):
    def test_of_anything(self):
        for rule, deeds in ((ROWS, ()), (READERS, RING_DEEDS)):
            for thing in odd_things() + [None, 0, "within", b"starves", {"within": 0}, {"starves", 0}]:
                self.told(rule, 3, deeds, 0, thing, False)

    def test_of_anything_as_a_part(self):
        paper = longest(ROWS, 2, all_deeds(2), 0)
        self.told(ROWS, 2, all_deeds(2), 0, paper, True)
        for place, thing in itertools.product(range(4), odd_things() + [None]):
            if not (place == 1 and type(thing) is int and thing >= paper[1]):
                self.told(ROWS, 2, all_deeds(2), 0, with_part(paper, place, thing), False)
            self.told(READERS, 3, RING_DEEDS, 0, with_part(RING, place, thing), False)

    def test_of_anything_as_a_rank_or_a_room(self):
        word, most, rooms, ranks = longest(ROWS, 2, all_deeds(2), 0)
        for place, thing in itertools.product((0, 5, len(rooms) - 1), odd_things() + [None, "0"]):
            self.told(ROWS, 2, all_deeds(2), 0, (word, most, rooms, with_part(ranks, place, thing)), False)
            self.told(ROWS, 2, all_deeds(2), 0, (word, most, with_part(rooms, place, thing), ranks), False)

    def test_of_anything_as_a_deed(self):
        for thing in odd_things() + [None, 0, "tick", ["tick"], ("read", 3, None), ("read", True, None)]:
            for place in range(3):
                self.told(READERS, 3, RING_DEEDS, 0, ("starves", 0, AHEAD[:place] + (thing,) + AHEAD[place:], AGAIN), False)
                self.told(READERS, 3, RING_DEEDS, 0, ("starves", 0, AHEAD, AGAIN[:place] + (thing,) + AGAIN[place:]), False)

    def test_truths_in_place_of_numbers(self):
        room = empty_room(1)
        self.told(ROWS, 1, (), 0, ("within", 1, (room,), (1,)), True)
        self.told(ROWS, 1, (), 0, ("within", True, (room,), (1,)), False)
        self.told(ROWS, 1, (), 0, ("within", 1, (room,), (True,)), False)
        self.told(ROWS, 1, (), 0, ("within", 1, (room,), (False,)), False)
        self.told(ROWS, 1, (), 0, ("within", 1.0, (room,), (1,)), False)
        self.told(ROWS, 1, (), 0, ("within", 1, (room,), (0.0,)), False)
        self.told(READERS, 3, RING_DEEDS, 0, ("starves", 0, (("read", True, None), AHEAD[1]), AGAIN), False)

    def test_lists_in_place_of_tuples(self):
        word, most, rooms, ranks = longest(ROWS, 2, all_deeds(2), 0)
        for thing in (
            [word, most, rooms, ranks], (word, most, list(rooms), ranks), (word, most, rooms, list(ranks)),
            (word, most, dict(zip(rooms, ranks)), ranks), (word, most, rooms, dict(zip(rooms, ranks))),
            (word, most, set(rooms), ranks), (word, most, rooms, {0}),
        ):
            self.told(ROWS, 2, all_deeds(2), 0, thing, False)
        for thing in (list(RING), with_part(RING, 2, list(AHEAD)), with_part(RING, 3, list(AGAIN))):
            self.told(READERS, 3, RING_DEEDS, 0, thing, False)

    def test_parts_too_few_or_too_many(self):
        paper = longest(ROWS, 2, all_deeds(2), 0)
        for many in range(4):
            self.told(ROWS, 2, all_deeds(2), 0, paper[:many], False)
            self.told(READERS, 3, RING_DEEDS, 0, RING[:many], False)
        self.told(ROWS, 2, all_deeds(2), 0, paper + ((),), False)
        self.told(ROWS, 2, all_deeds(2), 0, (paper,), False)
        self.told(READERS, 3, RING_DEEDS, 0, RING + ((),), False)

    def test_other_words(self):
        paper = longest(ROWS, 2, all_deeds(2), 0)
        for word in ("", "Within", "within ", "starves", "never", "alike", b"within", None):
            self.told(ROWS, 2, all_deeds(2), 0, with_part(paper, 0, word), False)
        for word in ("", "Starves", "within", "never", b"starves", None):
            self.told(READERS, 3, RING_DEEDS, 0, with_part(RING, 0, word), False)

    def test_sixty_deep(self):
        room = empty_room(1)
        for thing in (nested(58), nested(58, list), nested_dict(58)):
            self.told(ROWS, 1, (), 0, ("within", 0, (thing,), (0,)), False)
            self.told(ROWS, 1, (), 0, ("within", 0, (room, thing), (0, 0)), False)
            self.told(ROWS, 1, (), 0, ("within", 0, (room,), (thing,)), False)
            self.told(ROWS, 1, (), 0, ("within", thing, (room,), (0,)), False)
            self.told(READERS, 3, RING_DEEDS, 0, ("starves", 0, AHEAD, (thing,)), False)

    def test_what_answers_as_it_likes(self):
        for thing in (Alike(), Thorny()):
            self.told(ROWS, 1, (), 0, (thing, thing, thing, thing), False)
            self.told(ROWS, 1, (), 0, ("within", thing, (empty_room(1),), (0,)), False)
            self.told(ROWS, 1, (), 0, ("within", 0, (empty_room(1),), (thing,)), False)
            self.told(READERS, 3, RING_DEEDS, 0, with_part(RING, 1, thing), False)

    def test_what_is_handed_in_is_not_changed(self):
        deeds = all_deeds(2)
        word, most, rooms, ranks = longest(ROWS, 2, deeds, 0)
        thing = [word, most, [list(room) for room in rooms], list(ranks)]
        before = copy.deepcopy((deeds, thing))
        self.told(ROWS, 2, deeds, 0, thing, False)
        self.told(ROWS, 2, deeds, 0, tuple(thing), False)
        self.told(ROWS, 2, deeds, 0, (word, most, tuple(thing[2]), ranks), False)
        self.assertEqual((deeds, thing), before)


if __name__ == "__main__":
    unittest.main()
