"""The promise over the whole program: point 3, (a) to (h)."""

import itertools
import random
import unittest

from model import deeds_of, every_rule, every_weaving, some_plans, walk

from manyreaders.books import book
from manyreaders.deeds import all_deeds, stepped
from manyreaders.desk import Desk
from manyreaders.doors import can_go, next_in, settled
from manyreaders.fair import told_most
from manyreaders.heldlooks import shows_held
from manyreaders.holding import held
from manyreaders.longest import longest
from manyreaders.longlooks import shows_longest
from manyreaders.reading import read_room, read_row, read_rule
from manyreaders.rooms import empty, is_room, is_safe, readers_in, writer_in
from manyreaders.runs import pages, ran, waited
from manyreaders.showing import deed_text, event_text, room_text, row_text, rule_text
from manyreaders.starving import shows_starving, starving
from manyreaders.weavings import how_many, outcomes, stuck


class SafeAndSettledTests(unittest.TestCase):
    """(a) and (b)."""

    def kept(self, rule, n, room):
        self.assertTrue(is_room(n, room), (rule, room))
        self.assertIs(is_safe(rule, room), True, (rule, room))
        within = room[0]
        writers = within.count("writes") + within.count("raised")
        readers = within.count("reads") + within.count("rising")
        self.assertTrue(writers == 0 or (writers == 1 and readers == 0))
        self.assertLessEqual(within.count("rising"), 1)
        self.assertTrue(rule[1] == 0 or readers <= rule[1])
        self.assertIsNone(next_in(rule, room), (rule, room))
        self.assertEqual(settled(rule, room), (room, ()))
        rising = [guest for guest in range(n) if within[guest] == "rising"]
        self.assertFalse(any(can_go(rule, room, guest) for guest in rising))

    def test_all_rooms_of_up_to_three_guests(self):
        for rule, n in itertools.product(every_rule(), range(1, 4)):
            for room in book(rule, n, all_deeds(n)):
                self.kept(rule, n, room)

    def test_all_rooms_with_waits_that_end(self):
        for rule in every_rule(ks=(1,)):
            for room in book(rule, 2, tuple(deeds_of(2, lefts=(None, 0, 1, 3)))):
                self.kept(rule, 2, room)

    def test_long_rows_of_four_and_five_guests(self):
        draw = random.Random(3)
        for rule, n in itertools.product(every_rule(mosts=(0, 1, 3), ks=(0, 4)), (4, 5)):
            room = empty(n)
            for deed in walk(rule, n, 80, draw.choice):
                room, events = stepped(rule, n, room, deed)
                self.kept(rule, n, room)

    def test_as_many_read_as_the_rule_lets(self):
        # Where readers alone wait, somebody writes or rises, or as many read as may.
        for rule in every_rule(mosts=(0, 1, 2), ks=(1,)):
            for within, waits in book(rule, 3, all_deeds(3)):
                if waits and all(want == "read" for guest, want, mark, left in waits):
                    full = rule[1] != 0 and within.count("reads") == rule[1]
                    self.assertTrue(full or {"writes", "raised", "rising"} & set(within), (rule, within, waits))


class FairTests(unittest.TestCase):
    """(c)."""

    def test_a_fair_rule_and_the_told_numbers(self):
        draw = random.Random(31)
        for rule, n in itertools.product(every_rule(mosts=(0, 1, 2), ks=(0, 1, 9)), (3, 4, 5)):
            told = starving(rule, n)
            if told[0] == "never":
                bounds = dict(zip(("read", "write"), told[1:]))
                self.assertEqual(told[1:], told_most(rule, n))
                for guest, want, others, how in waited(rule, n, walk(rule, n, 100, draw.choice, lefts=(None, 5))):
                    self.assertLessEqual(others, bounds[want])

    def test_by_each_other_one_the_told_row_starves_one(self):
        many = 0
        for rule, n in itertools.product(every_rule(mosts=range(6)), (3, 4, 5)):
            told = starving(rule, n)
            if told[0] != "never":
                many += 1
                word, guest, ahead, again = told
                self.assertIs(shows_starving(rule, n, told), True)
                waits = [entry for entry in waited(rule, n, ahead + again * 30) if entry[0] == guest]
                self.assertEqual((len(waits), waits[0][3]), (1, None))
                self.assertGreaterEqual(waits[0][2], 30)
        self.assertEqual(many, 72)


class LongestTests(unittest.TestCase):
    """(d)."""

    def test_ranks_or_a_ring_and_never_both(self):
        papers = {"within": [], "starves": []}
        for rule in every_rule(mosts=(0, 1), ks=(1,)):
            told = longest(rule, 3, all_deeds(3), 0)
            papers[told[0]].append((rule, told))
        for rule, told in papers["within"] + papers["starves"]:
            self.assertIs(shows_longest(rule, 3, all_deeds(3), 0, told), True)
        for (rule, told), (other, ring) in itertools.product(papers["within"], papers["starves"]):
            self.assertIs(shows_longest(rule, 3, all_deeds(3), 0, ring), False)
            self.assertIs(shows_longest(other, 3, all_deeds(3), 0, told), False)

    def test_no_row_lets_in_more_than_the_ranks_show(self):
        draw = random.Random(32)
        for rule in every_rule(mosts=(0, 1), ks=(1,)):
            told = longest(rule, 3, all_deeds(3), 2)
            if told[0] == "within":
                for guest, want, others, how in waited(rule, 3, walk(rule, 3, 300, draw.choice, lefts=(None,))):
                    if guest == 2:
                        self.assertLessEqual(others, told[1])


class StepUpTests(unittest.TestCase):
    """(e)."""

    def test_between_going_in_and_stepping_up_no_other_one_writes(self):
        draw = random.Random(33)
        many = 0
        for rule, n in itertools.product(every_rule(ks=(1,)), (2, 3, 4)):
            wrote = {guest: set() for guest in range(n)}
            room = empty(n)
            for deed in walk(rule, n, 120, draw.choice, lefts=(None, 0, 3)):
                room, events = stepped(rule, n, room, deed)
                for word, guest in events:
                    if word == "in":
                        wrote[guest] = set()
                    if word == "steps":
                        many += 1
                        self.assertEqual(wrote[guest] - {guest}, set())
                if writer_in(room) is not None:
                    for others in wrote.values():
                        others.add(writer_in(room))
        self.assertGreater(many, 100)

    def test_one_asked_while_another_one_rises_is_refused(self):
        many = 0
        for rule in every_rule(ks=(1,)):
            for room in book(rule, 3, all_deeds(3)):
                if "rising" in room[0]:
                    self.assertEqual(rule[3], 1)
                    for guest in [guest for guest in readers_in(room) if room[0][guest] == "reads"]:
                        many += 1
                        self.assertEqual(stepped(rule, 3, room, ("up", guest)), (room, (("no", guest),)))
        self.assertGreater(many, 100)

    def test_the_page_is_the_one_it_came_to(self):
        draw = random.Random(34)
        for rule in every_rule(mosts=(0, 2), ks=(1,)):
            row = walk(rule, 3, 150, draw.choice, lefts=(None,))
            # Who never steps down meets at its step up the number that it met going in.
            row = tuple(deed for deed in row if deed[0] != "down")
            kept = []
            for deed in row:
                try:
                    ran(rule, 3, tuple(kept) + (deed,))
                    kept.append(deed)
                except ValueError:
                    continue
            latest = {}
            for guest, word, number in pages(rule, 3, tuple(kept)):
                if word == "up":
                    self.assertEqual(number, latest[guest])
                latest[guest] = number


class HeldTests(unittest.TestCase):
    """(f)."""

    def test_rules_that_do_alike_and_rules_that_part(self):
        draw = random.Random(35)
        words = set()
        for one, other in itertools.combinations(every_rule(mosts=(0, 1), ks=(0, 1)), 2):
            told = held(one, other, 3, all_deeds(3))
            words.add(told[0])
            self.assertIs(shows_held(one, other, 3, all_deeds(3), told), True)
            if told[0] == "alike":
                row = walk(one, 3, 40, draw.choice, lefts=(None,))
                self.assertEqual(ran(one, 3, row)[1], ran(other, 3, row)[1])
            else:
                row = told[1]
                self.assertEqual(ran(one, 3, row[:-1])[1], ran(other, 3, row[:-1])[1])
                self.assertNotEqual(ran(one, 3, row)[1], ran(other, 3, row)[1])
        self.assertEqual(words, {"alike", "parts"})

    def test_by_no_shorter_row(self):
        one, other = ("passes", 0, 1, 0), ("passes", 0, 2, 0)
        deeds = (("read", 0, None), ("write", 1, None), ("read", 2, None), ("leave", 2))
        word, row = held(one, other, 3, deeds)
        self.assertEqual((word, len(row)), ("parts", 5))
        for many in range(5):
            for shorter in itertools.product(deeds, repeat=many):
                self.assertIs(shows_held(one, other, 3, deeds, ("parts", shorter)), False)


class WeavingTests(unittest.TestCase):
    """(g)."""

    def test_as_many_as_there_are_and_what_they_come_to(self):
        draw = random.Random(36)
        for rule, n in itertools.product(every_rule(ks=(1,)), (2, 3)):
            plans = some_plans(n, draw, most=3)
            ended = list(every_weaving(rule, plans))
            whole = [met for weaving, room, is_whole, met in ended if is_whole]
            halted = sorted([(len(weaving), weaving) for weaving, room, is_whole, met in ended if not is_whole])
            self.assertEqual(how_many(rule, plans), len(whole))
            self.assertEqual(outcomes(rule, plans), tuple(sorted(set(whole))))
            self.assertEqual(stuck(rule, plans), halted[0][1] if halted else None)


class TextTests(unittest.TestCase):
    """(h)."""

    def test_what_is_written_is_read_again_as_it_was(self):
        draw = random.Random(37)
        for rule, n in itertools.product(every_rule(mosts=range(6), ks=range(10)), (1, 5)):
            self.assertEqual(read_rule(rule_text(rule)), rule)
            row = walk(rule, n, 10, draw.choice)
            self.assertEqual(read_row(n, row_text(row)), row)
            room = ran(rule, n, row)[0]
            self.assertEqual(read_room(room_text(room)), room)

    def test_the_desk_answers_as_all_these_do(self):
        draw = random.Random(38)
        for rule, n in itertools.product(every_rule(ks=(1,)), (2, 4)):
            row = walk(rule, n, 40, draw.choice)
            desk = Desk(rule, n)
            told = [desk.say(deed_text(deed)) for deed in row]
            room, brought = ran(rule, n, row)
            self.assertEqual(told, [", ".join(event_text(event) for event in events) or "-" for events in brought])
            self.assertEqual(desk.say("room"), room_text(room))
            self.assertEqual(desk.say("done").replace(", ", "\n"), row_text(row))


if __name__ == "__main__":
    unittest.main()
