"""The whole promise, (a) and (b) of point 3: safe rooms, and nobody kept out whom the rule would let in."""

import itertools
import random
import unittest

from model import deeds_of, every_rule, walk

from manyreaders.books import book
from manyreaders.deeds import all_deeds, stepped
from manyreaders.doors import can_go, next_in, settled
from manyreaders.rooms import empty, is_room, is_safe


class WholeTests(unittest.TestCase):
    def kept(self, rule, n, room):
        self.assertTrue(is_room(n, room), (rule, room))
        self.assertIs(is_safe(rule, room), True, (rule, room))
        within = room[0]
        writers = within.count("writes") + within.count("raised")
        readers = within.count("reads") + within.count("rising")
        self.assertTrue(writers == 0 or (writers == 1 and readers == 0))
        self.assertLessEqual(within.count("rising"), 1)
        self.assertTrue(rule[1] == 0 or readers <= rule[1])
        self.assertIsNone(next_in(rule, room), (rule, room))
        self.assertEqual(settled(rule, room), (room, ()))
        rising = [guest for guest in range(n) if within[guest] == "rising"]
        self.assertFalse(any(can_go(rule, room, guest) for guest in rising))

    def test_all_rooms_of_up_to_three_guests(self):
        for rule, n in itertools.product(every_rule(), range(1, 4)):
            for room in book(rule, n, all_deeds(n)):
                self.kept(rule, n, room)

    def test_all_rooms_with_waits_that_end(self):
        for rule in every_rule(ks=(1,)):
            for room in book(rule, 2, tuple(deeds_of(2, lefts=(None, 0, 1, 3)))):
                self.kept(rule, 2, room)

    def test_long_rows_of_four_and_five_guests(self):
        draw = random.Random(3)
        for rule, n in itertools.product(every_rule(mosts=(0, 1, 3), ks=(0, 4)), (4, 5)):
            room = empty(n)
            for deed in walk(rule, n, 80, draw.choice):
                room, events = stepped(rule, n, room, deed)
                self.kept(rule, n, room)


if __name__ == "__main__":
    unittest.main()
