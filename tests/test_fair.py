"""Fair rules: point 17, and (c) of point 3."""

import itertools
import random
import unittest

from model import deeds_of, empty_room, every_rule, model_stepped, walk

from manyreaders.deeds import all_deeds
from manyreaders.fair import told_most
from manyreaders.runs import waited


def most_others(rule, n, deeds, guest, stop_at):
    """The most others let in while the guest waits, over all rows of the deeds; None where it comes to stop_at."""
    # A state: the room, and how many others went in since the guest began to wait (0 while it doesn't).
    seen = {(empty_room(n), 0)}
    newest, most = list(seen), 0
    while newest:
        room, others = newest.pop()
        for deed in deeds:
            told = model_stepped(rule, room, deed)
            if told is None:
                continue
            count, waits = others, any(entry[0] == guest for entry in room[1])
            for word, who in told[1]:
                if who == guest and word in ("in", "ends", "waits"):
                    waits, count = word == "waits", count if word != "waits" else 0
                elif word == "in" and waits:
                    count += 1
            most = max(most, count)
            if most >= stop_at:
                return None
            state = (told[0], count if waits else 0)
            if state not in seen:
                seen.add(state)
                newest.append(state)
    return most


class ToldTests(unittest.TestCase):
    def told(self, rule, row):
        for ups in (0, 1):
            told = [told_most(rule + (ups,), n) for n in range(1, 6)]
            self.assertEqual(told, row)
            self.assertEqual(told, [told_most(rule + (ups,), n) for n in range(1, 6)])
            self.assertTrue(all(isinstance(pair, tuple) for pair in told))

    def test_rows(self):
        for most in range(6):
            self.told(("rows", most, 0), [(0, 0), (0, 0), (1, 1), (2, 2), (3, 3)])

    def test_readers(self):
        for most in range(6):
            self.told(("readers", most, 0), [(0, 0), (0, 0), (1, None), (2, None), (3, None)])

    def test_writers(self):
        for most in range(6):
            self.told(("writers", most, 0), [(0, 0), (0, 0), (None, 1), (None, 2), (None, 3)])

    def test_turns(self):
        self.told(("turns", 0, 0), [(0, 0), (0, 0), (1, 2), (2, 5), (3, 9)])
        for most in range(1, 6):
            self.told(("turns", most, 0), [(0, 0), (0, 0), (2, 2), (3, 5), (4, 9)])

    def test_passes(self):
        for most, k in itertools.product(range(6), range(10)):
            self.told(("passes", most, k), [(0, 0), (0, 0), (1, 1 + k), (2, 2 + k), (3, 3 + k)])

    def test_numbers_are_no_truths(self):
        for rule, n in itertools.product(every_rule(), range(1, 6)):
            for number in told_most(rule, n):
                self.assertTrue(number is None or type(number) is int)


class PromiseTests(unittest.TestCase):
    def test_no_more_others_are_let_in(self):
        for rule, n in itertools.product(every_rule(), range(1, 4)):
            for place, other in ((0, "write"), (1, "read")):
                deeds = tuple(deed for deed in all_deeds(n) if deed[:2] != (other, 0))
                most = most_others(rule, n, deeds, 0, 15)
                told = told_most(rule, n)[place]
                if told is None:
                    self.assertIsNone(most, (rule, n, place))
                else:
                    self.assertIsNotNone(most, (rule, n, place))
                    self.assertLessEqual(most, told, (rule, n, place))

    def test_the_numbers_are_met(self):
        for rule in (("rows", 0, 0, 0), ("passes", 0, 2, 0), ("turns", 0, 0, 1), ("turns", 1, 0, 0), ("readers", 2, 0, 0)):
            for place, other in ((0, "write"), (1, "read")):
                deeds = tuple(deed for deed in all_deeds(3) if deed[:2] != (other, 0))
                self.assertEqual(most_others(rule, 3, deeds, 0, 15), told_most(rule, 3)[place])

    def test_nor_where_waits_end_by_ticks(self):
        for rule in every_rule(mosts=(0, 1), ks=(2,)):
            told = [number for number in told_most(rule, 3) if number is not None]
            deeds = tuple(deed for deed in deeds_of(3, lefts=(None, 1)) if len(told) == 2 or deed[:2] != ("read", 0))
            if rule[0] != "readers":
                self.assertLessEqual(most_others(rule, 3, deeds, 0, 15), max(told))

    def test_by_long_rows_of_four_and_five_guests(self):
        draw = random.Random(17)
        for rule, n in itertools.product(every_rule(mosts=(0, 1, 3), ks=(0, 3)), (4, 5)):
            bounds = dict(zip(("read", "write"), told_most(rule, n)))
            for guest, want, others, how in waited(rule, n, walk(rule, n, 150, draw.choice, lefts=(None, 9))):
                if bounds[want] is not None:
                    self.assertLessEqual(others, bounds[want])


if __name__ == "__main__":
    unittest.main()
