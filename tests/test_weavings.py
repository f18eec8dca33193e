"""All weavings of plans: point 24, and (g) of point 3."""

import copy
import itertools
import math
import random
import unittest

from bounds import WOVEN_JUST, WOVEN_ONE_MORE
from model import PLAN_WORDS, every_rule, every_weaving, model_states, model_step, model_weave, some_plans

from manyreaders.errors import TooMany
from manyreaders.plans import woven
from manyreaders.runs import pages
from manyreaders.weavings import how_many, outcomes, stuck

ROWS = ("rows", 0, 0, 0)
ROWS_UP = ("rows", 0, 0, 1)


def ways(plans):
    """In how many orders the words of all plans can stand, each plan's in its own order."""
    told = math.factorial(sum(len(plan) for plan in plans))
    for plan in plans:
        told //= math.factorial(len(plan))
    return told


class WeavingCase(unittest.TestCase):
    def held(self, rule, plans):
        """Holds all three against the weavings gone through one by one; tells how many are whole, and what is stuck."""
        ended = list(every_weaving(rule, plans))
        whole = [(weaving, met) for weaving, room, is_whole, met in ended if is_whole]
        halted = [weaving for weaving, room, is_whole, met in ended if not is_whole]
        first = min(halted, key=lambda weaving: (len(weaving), weaving)) if halted else None
        self.assertEqual(how_many(rule, plans), len(whole), (rule, plans))
        self.assertEqual(stuck(rule, plans), first, (rule, plans))
        self.assertEqual(outcomes(rule, plans), tuple(sorted({met for weaving, met in whole})), (rule, plans))
        return len(whole), first


class SmallTests(WeavingCase):
    def test_plans_without_any_word(self):
        for rule, n in itertools.product(every_rule(mosts=(0, 1), ks=(1,)), range(1, 6)):
            plans = ((),) * n
            self.assertEqual(how_many(rule, plans), 1)
            self.assertIs(type(how_many(rule, plans)), int)
            self.assertIsNone(stuck(rule, plans))
            self.assertEqual(outcomes(rule, plans), (((),) * n,))

    def test_one_reads_and_one_writes(self):
        plans = (("read", "leave"), ("write", "leave"))
        # Of the six orders two would have a step of one that waits.
        self.assertEqual(how_many(ROWS, plans), 4)
        self.assertIsNone(stuck(ROWS, plans))
        self.assertEqual(outcomes(ROWS, plans), (((0,), (0,)), ((1,), (0,))))

    def test_two_that_write(self):
        plans = (("write", "leave"), ("write", "leave"))
        self.assertEqual(how_many(ROWS, plans), 4)
        self.assertEqual(outcomes(ROWS, plans), (((0,), (1,)), ((1,), (0,))))

    def test_steps_up_and_down(self):
        plans = (("read", "up", "down", "up", "leave"),)
        self.assertEqual(how_many(ROWS_UP, plans), 1)
        self.assertEqual(outcomes(ROWS_UP, plans), (((0, 0, 1),),))
        self.assertEqual(outcomes(ROWS, plans), (((0,),),))
        plans = (("write", "down", "up"), ("read", "leave"))
        self.assertEqual(self.held(ROWS_UP, plans)[1], (0, 0, 0, 1))

    def test_words_that_are_all_passed_over(self):
        plans = (("leave", "down"), ("up", "leave", "down"), ("down",))
        self.assertEqual(how_many(ROWS_UP, plans), ways(plans))
        self.assertIsNone(stuck(ROWS_UP, plans))
        self.assertEqual(outcomes(ROWS_UP, plans), (((), (), ()),))

    def test_readers_alone_weave_in_all_ways(self):
        plans = (("read", "leave"), ("read", "leave", "read"), ("read",))
        for rule in every_rule(mosts=(0, 3), ks=(1,)):
            self.assertEqual(how_many(rule, plans), ways(plans))
            self.assertEqual(outcomes(rule, plans), (((0,), (0, 0), (0,)),))

    def test_very_many(self):
        plans = (("down",) * 6,) * 4
        self.assertEqual(how_many(ROWS, plans), math.factorial(24) // math.factorial(6) ** 4)
        plans = (("read", "leave", "read", "leave"),) * 4
        self.assertEqual(how_many(ROWS, plans), math.factorial(16) // math.factorial(4) ** 4)


class StuckTests(WeavingCase):
    def test_soon(self):
        self.assertEqual(stuck(ROWS, (("write",), ("read", "leave"))), (0, 1))
        self.assertEqual(stuck(ROWS, (("read", "leave"), ("write",))), (1, 0))
        self.assertEqual(stuck(ROWS, (("read",), ("write", "leave"))), (0, 1))
        self.assertEqual(stuck(ROWS, (("write", "leave"), ("write",), ())), (1, 0))

    def test_late(self):
        plans = (("read", "leave", "read", "leave", "write"), ("read", "leave"))
        self.assertEqual(stuck(ROWS, plans), (0, 0, 0, 0, 0, 1))
        plans = (("leave",) * 6, ("leave",) * 5 + ("write",), ("read", "leave"))
        self.assertEqual(stuck(ROWS, plans), (0,) * 6 + (1,) * 6 + (2,))

    def test_by_two_that_would_step_up(self):
        plans = (("read", "up", "leave"), ("read", "up", "leave"))
        # The second one is refused and goes on: nobody is stuck.
        self.assertIsNone(stuck(ROWS_UP, plans))
        plans = (("read", "up", "leave"), ("read",))
        self.assertEqual(stuck(ROWS_UP, plans), (0, 1, 0))
        self.assertIsNone(stuck(ROWS, plans))

    def test_never(self):
        for rule in every_rule(ks=(1,)):
            self.assertIsNone(stuck(rule, (("read", "leave"), ("write", "leave"), ("read", "leave"))))

    def test_a_wait_when_all_words_are_done_is_whole(self):
        plans = (("write",), ("read",), ("write",))
        self.assertIsNone(stuck(ROWS, plans))
        self.assertEqual(how_many(ROWS, plans), 6)
        # Who asks first goes in and stays; the others wait for good.
        self.assertEqual(outcomes(ROWS, plans), (((), (), (0,)), ((), (0,), ()), ((0,), (), ())))
        self.assertEqual(stuck(ROWS, plans[:2] + (("write", "leave"),)), (0, 1, 2))

    def test_no_weaving_is_whole(self):
        plans = (("write", "read"), ("write", "read"))
        for rule in every_rule(ks=(1,)):
            self.assertEqual(self.held(rule, plans), (0, (0, 0, 1)))
            self.assertEqual((how_many(rule, plans), outcomes(rule, plans)), (0, ()))

    def test_the_first_of_several(self):
        # A shorter one first, though (0, 0, 2, 1) is the lesser tuple.
        plans = (("read", "leave"), ("read", "leave"), ("write",))
        self.assertEqual(stuck(ROWS, plans), (2, 0, 1))
        ended = [weaving for weaving, room, whole, met in every_weaving(ROWS, plans) if not whole]
        self.assertIn((0, 0, 2, 1), ended)
        # Of one length, as tuples rise.
        plans = (("write", "leave"), ("write",), ("write",))
        self.assertEqual(stuck(ROWS, plans), (1, 0, 2))
        ended = [weaving for weaving, room, whole, met in every_weaving(ROWS, plans) if not whole]
        self.assertIn((2, 0, 1), ended)

    def test_what_is_stuck_is_so(self):
        draw = random.Random(24)
        many = 0
        for rule in every_rule(ks=(1,)) * 4:
            plans = some_plans(3, draw, most=4)
            weaving = stuck(rule, plans)
            if weaving is not None:
                many += 1
                room = woven(rule, plans, weaving)[0]
                counts = tuple(weaving.count(guest) for guest in range(3))
                self.assertNotEqual(counts, tuple(len(plan) for plan in plans))
                for guest in range(3):
                    self.assertIsNone(model_step(rule, plans, room, counts, guest))
        self.assertGreater(many, 20)


class OneByOneTests(WeavingCase):
    def test_all_small_plans_of_one_and_two_guests(self):
        short = [plan for many in range(3) for plan in itertools.product(PLAN_WORDS, repeat=many)]
        for rule in (ROWS_UP, ("passes", 1, 1, 0)):
            for plan in short:
                self.held(rule, (plan,))
            for plans in itertools.product(short, repeat=2):
                self.held(rule, plans)

    def test_drawn_plans_by_all_rules(self):
        draw = random.Random(241)
        halted = []
        for rule, n in itertools.product(every_rule(ks=(0, 1)), (2, 3, 3)):
            plans = some_plans(n, draw, most={2: 5, 3: 3}[n])
            halted.append(self.held(rule, plans)[1])
        self.assertGreater(halted.count(None), 20)
        self.assertGreater(len(halted) - halted.count(None), 10)

    def test_reads_and_writes_that_end(self):
        for rule in every_rule(ks=(0, 2)):
            self.held(rule, (("read", "up", "leave"), ("write", "down", "leave"), ("read", "leave")))
            self.held(rule, (("write", "leave"), ("read", "leave"), ("write", "leave"), ("read",)))

    def test_four_and_five_guests(self):
        draw = random.Random(242)
        for rule in every_rule(mosts=(0, 2), ks=(1,)):
            self.held(rule, some_plans(4, draw, most=2))
            self.held(rule, some_plans(5, draw, most=1))

    def test_long_plans(self):
        draw = random.Random(243)
        for rule in every_rule(mosts=(0,), ks=(1,)):
            self.held(rule, tuple(tuple(draw.choice(PLAN_WORDS) for word in range(6)) for guest in range(2)))
            self.held(rule, (tuple(draw.choice(PLAN_WORDS) for word in range(6)),))

    def test_drawn_weavings_come_to_what_is_told(self):
        draw = random.Random(244)
        many = 0
        for rule in every_rule(ks=(1,)):
            plans = some_plans(4, draw, most=4)
            if len(model_states(rule, plans)) > 4000:
                continue
            told = outcomes(rule, plans)
            for step in range(10):
                weaving = model_weave(rule, plans, draw)[0]
                if len(weaving) == sum(len(plan) for plan in plans):
                    many += 1
                    self.assertIn(self.numbers_met(rule, plans, weaving), told)
        self.assertGreater(many, 20)

    def numbers_met(self, rule, plans, weaving):
        """What the weaving comes to, by the row of deeds that its steps do."""
        room, counts, row = (("out",) * len(plans), ()), (0,) * len(plans), []
        for guest in weaving:
            room, counts, deed, events = model_step(rule, plans, room, counts, guest)
            row += [] if deed is None else [deed]
        told = pages(rule, len(plans), tuple(row))
        return tuple(tuple(number for who, word, number in told if who == guest) for guest in range(len(plans)))


class BoundTests(WeavingCase):
    def refused(self, rule, plans):
        for ask in (how_many, stuck, outcomes):
            with self.assertRaises(TooMany):
                ask(rule, plans)

    def test_just_4000(self):
        rule, plans = WOVEN_JUST
        states = model_states(rule, plans)
        self.assertEqual(len(states), 4000)
        whole = tuple(len(plan) for plan in plans)
        self.assertEqual(how_many(rule, plans), self.counted(rule, plans))
        self.assertEqual(outcomes(rule, plans), tuple(sorted({state[3] for state in states if state[1] == whole})))
        self.assertEqual(len(woven(rule, plans, stuck(rule, plans))[1]), len(stuck(rule, plans)))

    def counted(self, rule, plans):
        """How many whole weavings there are, counted from each room and counts on, without numbers."""
        known = {}

        def count(room, counts):
            if counts == tuple(len(plan) for plan in plans):
                return 1
            if (room, counts) not in known:
                steps = [model_step(rule, plans, room, counts, guest) for guest in range(len(plans))]
                known[room, counts] = sum(count(step[0], step[1]) for step in steps if step is not None)
            return known[room, counts]

        return count((("out",) * len(plans), ()), (0,) * len(plans))

    def test_one_more(self):
        rule, plans = WOVEN_ONE_MORE
        states = model_states(rule, plans)
        self.assertEqual(len(states), 4001)
        # Without the numbers there are far fewer: they are counted together with them.
        self.assertLess(len({state[:2] for state in states}), 4000)
        self.refused(rule, plans)

    def test_many_more(self):
        self.refused(ROWS, (("down",) * 6,) * 5)
        self.refused(ROWS, (("read", "leave", "write", "leave"),) * 4)
        # Also where a weaving would be stuck ahead of that.
        plans = (("read", "leave", "read"), ("write", "leave", "write")) + (("down",) * 6,) * 3
        self.assertIsNotNone(stuck(ROWS, plans[:2]))
        self.refused(ROWS, plans)

    def test_fewer(self):
        plans = (("down",) * 6,) * 4
        self.assertEqual(len(model_states(ROWS, plans)), 7 ** 4)
        self.assertEqual(outcomes(ROWS, plans), (((),) * 4,))
        self.assertIsNone(stuck(ROWS, plans))


class AgainTests(WeavingCase):
    def test_nothing_is_changed_and_the_same_is_told_again(self):
        rule, plans = ("passes", 2, 3, 1), (("read", "up", "leave"), ("write", "leave"), ("read",))
        before = copy.deepcopy((rule, plans))
        for ask in (how_many, stuck, outcomes):
            self.assertEqual(ask(rule, plans), ask(rule, plans))
        self.assertEqual((rule, plans), before)
        self.assertIs(type(outcomes(rule, plans)), tuple)
        self.assertIs(type(stuck(rule, plans)), tuple)


if __name__ == "__main__":
    unittest.main()
