"""The interface, and what points 1 and 2 say of the whole program."""

import ast
import importlib
import inspect
import pathlib
import subprocess
import sys
import unittest

from model import PLAN_WORDS, every_rule

from manyreaders import errors
from manyreaders.books import book, tally
from manyreaders.deeds import all_deeds
from manyreaders.desk import Desk
from manyreaders.holding import held
from manyreaders.longest import longest
from manyreaders.weavings import outcomes

ROOT = pathlib.Path(__file__).resolve().parent.parent
INTERFACE = {
    "rules": {"is_rule": "thing"},
    "rooms": {
        "is_room": "n thing", "empty": "n", "readers_in": "room", "writer_in": "room", "waiting": "room guest",
        "is_safe": "rule room",
    },
    "doors": {"can_go": "rule room guest", "next_in": "rule room", "settled": "rule room"},
    "deeds": {"is_deed": "n thing", "all_deeds": "n", "may_do": "n room", "stepped": "rule n room deed"},
    "runs": {"ran": "rule n row", "pages": "rule n row", "waited": "rule n row"},
    "books": {"book": "rule n deeds", "way_to": "rule n deeds room", "tally": "rule n deeds"},
    "booklooks": {"shows_book": "rule n deeds thing"},
    "fair": {"told_most": "rule n"},
    "starving": {"starving": "rule n", "shows_starving": "rule n thing"},
    "longest": {"longest": "rule n deeds guest"},
    "longlooks": {"shows_longest": "rule n deeds guest thing"},
    "holding": {"held": "one other n deeds"},
    "heldlooks": {"shows_held": "one other n deeds thing"},
    "plans": {"is_plans": "thing", "woven": "rule plans weaving"},
    "weavings": {"how_many": "rule plans", "stuck": "rule plans", "outcomes": "rule plans"},
    "showing": {
        "rule_text": "rule", "deed_text": "deed", "row_text": "row", "event_text": "event", "room_text": "room",
    },
    "reading": {"read_rule": "text", "read_room": "text", "read_row": "n text"},
    "desk": {"Desk": "rule n"},
    "errors": {"NoDeed": "place", "NoText": "row"},
}


def plain(thing):
    """Whether the thing is made of tuples, whole numbers, texts, truths and None alone."""
    if type(thing) is tuple:
        return all(plain(part) for part in thing)
    return thing is None or type(thing) in (int, str, bool)


class NameTests(unittest.TestCase):
    def test_all_names_and_arguments(self):
        for module, names in INTERFACE.items():
            held_there = importlib.import_module(f"manyreaders.{module}")
            for name, arguments in names.items():
                told = inspect.signature(getattr(held_there, name)).parameters
                self.assertEqual(" ".join(told), arguments, (module, name))
                self.assertTrue(all(one.default is one.empty for one in told.values()), (module, name))

    def test_say(self):
        self.assertEqual(list(inspect.signature(Desk(("rows", 0, 0, 0), 1).say).parameters), ["line"])

    def test_each_module_can_be_imported_alone(self):
        for module in INTERFACE:
            told = subprocess.run([sys.executable, "-c", f"import manyreaders.{module}"], cwd=ROOT, capture_output=True)
            self.assertEqual((told.returncode, told.stderr), (0, b""), module)

    def test_all_refusals_stand_straight_under_guest_error(self):
        for path in sorted((ROOT / "manyreaders").glob("*.py")):
            module = importlib.import_module(f"manyreaders.{path.stem}" if path.stem != "__init__" else "manyreaders")
            for thing in vars(module).values():
                if isinstance(thing, type) and issubclass(thing, BaseException) and thing is not errors.GuestError:
                    self.assertEqual(thing.__bases__, (errors.GuestError,))


class PlainTests(unittest.TestCase):
    def test_what_is_told_is_made_of_plain_things(self):
        for rule in every_rule(mosts=(0, 1), ks=(1,)):
            deeds = all_deeds(2)
            self.assertTrue(plain(book(rule, 2, deeds)))
            self.assertTrue(plain(longest(rule, 3, all_deeds(3), 0)))
            self.assertTrue(plain(held(rule, ("rows", 0, 0, 0), 2, deeds)))
            self.assertTrue(plain(outcomes(rule, (("read", "leave"), ("write", "up")))))

    def test_what_is_told_is_the_asker_own(self):
        rule, deeds = ("rows", 0, 0, 0), all_deeds(2)
        first = tally(rule, 2, deeds)
        before = dict(first)
        first.clear()
        self.assertEqual(tally(rule, 2, deeds), before)


class NothingElseTests(unittest.TestCase):
    """Nothing hangs on a clock, chance or files."""

    def test_no_module_of_python_is_drawn_in(self):
        for path in sorted((ROOT / "manyreaders").glob("*.py")):
            for node in ast.walk(ast.parse(path.read_text(encoding="ascii"))):
                self.assertNotIsInstance(node, ast.Import, path.name)
                if isinstance(node, ast.ImportFrom):
                    self.assertTrue(node.module.startswith("manyreaders."), path.name)

    def test_the_same_is_told_whatever_the_order_of_sets(self):
        words = " ".join(PLAN_WORDS)
        text = (
            "from manyreaders.books import book, tally\n"
            "from manyreaders.deeds import all_deeds\n"
            "from manyreaders.holding import held\n"
            "from manyreaders.longest import longest\n"
            "from manyreaders.weavings import outcomes, stuck\n"
            "rule, other, deeds = ('passes', 0, 1, 1), ('passes', 0, 2, 1), all_deeds(3)\n"
            f"plans = (tuple('{words}'.split()), ('read', 'up', 'leave'), ('write', 'leave'))\n"
            "print(book(rule, 3, deeds), list(tally(rule, 3, deeds).items()), held(rule, other, 3, deeds))\n"
            "print(longest(rule, 3, deeds, 1), longest(('readers', 0, 0, 0), 3, deeds, 1))\n"
            "print(outcomes(rule, plans), stuck(rule, plans))\n"
        )
        told = set()
        for seed in ("0", "1", "2"):
            run = subprocess.run(
                [sys.executable, "-c", text], cwd=ROOT, env={"PYTHONHASHSEED": seed, "PYTHONDONTWRITEBYTECODE": "1"},
                capture_output=True, check=True,
            )
            told.add(run.stdout)
        self.assertEqual(len(told), 1)
        self.assertGreater(len(told.pop()), 1000)


if __name__ == "__main__":
    unittest.main()
