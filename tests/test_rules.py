"""Rules: point 4."""

import itertools
import unittest

from oddthings import Alike, nested, odd_things, with_part

from manyreaders.rules import is_rule

WORDS = ("rows", "readers", "writers", "turns", "passes")


class RuleTests(unittest.TestCase):
    def taken(self, thing):
        self.assertIs(is_rule(thing), True, repr(thing))
        self.assertIs(is_rule(thing), True, repr(thing))

    def sent_back(self, thing):
        self.assertIs(is_rule(thing), False)
        self.assertIs(is_rule(thing), False)

    def test_each_word_with_each_most_and_ups(self):
        for word, most, ups in itertools.product(WORDS, range(6), (0, 1)):
            self.taken((word, most, 0, ups))

    def test_passes_with_each_k(self):
        for most, k, ups in itertools.product(range(6), range(10), (0, 1)):
            self.taken(("passes", most, k, ups))

    def test_most_beyond_its_bounds(self):
        for word, most in itertools.product(WORDS, (-1, 6, 7, 100)):
            self.sent_back((word, most, 0, 0))

    def test_k_beyond_its_bounds(self):
        for k in (-1, 10, 11, 100):
            self.sent_back(("passes", 0, k, 0))

    def test_k_of_another_word_than_passes(self):
        for word, k in itertools.product(WORDS[:4], (-1, 1, 3, 9, 10)):
            self.sent_back((word, 2, k, 1))

    def test_ups_beyond_its_bounds(self):
        for word, ups in itertools.product(WORDS, (-1, 2, 3)):
            self.sent_back((word, 2, 0, ups))

    def test_how_many_rules_there_are(self):
        numbers = range(-2, 13)
        rules = [
            rule for rule in itertools.product(WORDS, numbers, numbers, numbers) if is_rule(rule)
        ]
        self.assertEqual(len(rules), 4 * 6 * 2 + 6 * 10 * 2)

    def test_words_that_are_none(self):
        for word in ("", "row", "rows ", " rows", "Rows", "PASSES", "pass", "reader", "read", "fair", "rows\n"):
            self.sent_back((word, 0, 0, 0))

    def test_truths_are_no_numbers(self):
        for truth in (True, False):
            self.sent_back(("passes", truth, 1, 1))
            self.sent_back(("passes", 1, truth, 1))
            self.sent_back(("passes", 1, 1, truth))

    def test_none_and_floats_are_no_numbers(self):
        for part, place in itertools.product((None, 0.0, 1.0, "1", b"1"), (1, 2, 3)):
            self.sent_back(with_part(("passes", 1, 1, 1), place, part))

    def test_a_list_is_no_tuple(self):
        self.sent_back(["rows", 0, 0, 0])
        self.sent_back((["rows"], 0, 0, 0))
        self.sent_back(("rows", [0], 0, 0))

    def test_parts_too_few_or_too_many(self):
        whole = ("passes", 2, 3, 1)
        for many in range(4):
            self.sent_back(whole[:many])
        self.sent_back(whole + (0,))
        self.sent_back(whole + (None,))
        self.sent_back((whole,))
        self.sent_back(whole + whole)

    def test_of_anything(self):
        for thing in odd_things() + ["rows", "passes", None, 0, 1]:
            self.sent_back(thing)

    def test_of_anything_as_the_word(self):
        for thing in odd_things() + [None, 0, 1, ("rows",)]:
            self.sent_back((thing, 0, 0, 0))

    def test_of_anything_as_a_number(self):
        for thing, place in itertools.product(odd_things() + [None, "rows"], (1, 2, 3)):
            self.sent_back(with_part(("passes", 1, 1, 1), place, thing))

    def test_what_says_it_is_equal_to_all(self):
        self.sent_back((Alike(), Alike(), Alike(), Alike()))

    def test_sixty_deep(self):
        self.sent_back((nested(59), nested(59), nested(59), nested(59)))
        self.sent_back(("rows", nested(59, list), 0, 0))

    def test_what_is_handed_in_is_not_changed(self):
        listed = ["rows", [0], {"k": 0}, 0]
        self.sent_back(listed)
        self.sent_back(tuple(listed))
        self.assertEqual(listed, ["rows", [0], {"k": 0}, 0])
        keyed = {"rows": 0}
        self.sent_back(keyed)
        self.assertEqual(keyed, {"rows": 0})


if __name__ == "__main__":
    unittest.main()
