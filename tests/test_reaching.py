import unittest
from fractions import Fraction
from itertools import product
from math import gcd, prod

from strict import (
    ADDED,
    BLEND,
    CHAIN,
    FOUR,
    FULL,
    GREAT,
    HALF,
    LESS,
    NO_INTEGERS,
    PLANS,
    SMALL,
    WIDE,
    Dice,
    StrictCase,
    divisors_of,
    inputs_in,
    numbers,
    row_of_stages,
    run,
    thrown_plan,
    tower,
    worth,
)

from stagecuts.errors import Unfit
from stagecuts.plans import offsets_of, plan_error, with_offsets
from stagecuts.reaching import reach
from stagecuts.running import error_of, rests_of, told_by
from stagecuts.shares import shares_of
from stagecuts.slips import all_slips

PRIMES = (2, 3, 5, 7, 11, 13, 17, 19, 23, 29, 31, 37, 41, 43, 47, 53, 59, 61, 67, 71)
P, Q, R = 10 ** 15 - 11, 10 ** 15 - 53, 10 ** 14 - 27
# Any one weight left out, an integer above 1 divides all the others.
ALL_BUT_TOGETHER = (
    (6, 10, 15), (-6, 10, 15), (6, -10, 15), (15, 10, -6), (10, 6, 15), (-6, -10, -15), (30, 42, 70, 105),
    (6, 10, -15, 30), (60, -36, 45, 40), (GREAT, GREAT - 1), (1 - GREAT, GREAT), (2 ** 99, 3 ** 62),
    (3 ** 62, -2 ** 99),
    tuple(prod(PRIMES) // prime for prime in PRIMES), tuple(-prod(PRIMES) // prime for prime in reversed(PRIMES)),
    (P * Q, P * R, -Q * R), (-P * R, P * Q, Q * R),
)
FAR = tuple(sign * (10 ** figures - less) for figures in (60, 400) for less in (1, 10 ** 29 + 7) for sign in (1, -1))


def stage_by(weights, divisor=7, offset=4):
    """Return a plan of one stage with these weights."""
    return (divisor, offset, tuple((weight, at) for at, weight in enumerate(weights)))


def rests_for(plan):
    """Return rests of noughts, the greatest ones, some between, and one alone of each."""
    divisors = divisors_of(plan)
    found = [(0,) * len(divisors), tuple(divisor - 1 for divisor in divisors)]
    found.append(tuple(divisor // 2 for divisor in divisors))
    found.append(tuple(abs(number) % divisor for number, divisor in zip(numbers(len(divisors), GREAT), divisors)))
    for at, divisor in enumerate(divisors):
        found.append((0,) * at + (divisor - 1,) + (0,) * (len(divisors) - at - 1))
    return found


class ReachingCase(StrictCase):
    def check(self, plan, rests, value):
        row = self.told_alike(reach, {"plan": plan, "rests": rests, "value": value})
        self.assertIs(type(row), tuple)
        self.assertEqual([type(item) for item in row], [int] * len(inputs_in(plan)))
        self.assertEqual(run(plan, row)[:2], (value, rests))
        self.assertEqual((told_by(plan, row), rests_of(plan, row)), (value, rests))

    def check_all_rests(self, plan, values):
        for rests in product(*map(range, divisors_of(plan))):
            for value in values:
                self.check(plan, rests, value)


class WorkedOutTest(ReachingCase):
    def test_one_input_can_be_but_one_integer(self):
        for value in (0, 1, -1, 7, -100, 10 ** 400):
            for rest in range(6):
                plan = (6, 5, ((-1, 0),))
                self.assert_tells(reach, {"plan": plan, "rests": (rest,), "value": value}, (5 - 6 * value - rest,))
                plan = (6, 1, ((1, 0),))
                self.assert_tells(reach, {"plan": plan, "rests": (rest,), "value": value}, (6 * value + rest - 1,))
        self.assert_tells(reach, {"plan": (1, 0, ((1, 0),)), "rests": (0,), "value": -3}, (-3,))

    def test_one_input_beneath_several_stages(self):
        # 2 * 5 and the rest 1, less the offset 1, are 10: -10 beneath; 3 * -10 and 2, less 2, are -30.
        plan = (2, 1, ((-1, (3, 2, ((1, 0),))),))
        self.assert_tells(reach, {"plan": plan, "rests": (1, 2), "value": 5}, (-30,))
        for value in range(-300, 300, 7):
            for at in range(256):
                rests = tuple(at >> place & 1 for place in range(8))
                item = 256 * value + sum(rest << 7 - place for place, rest in enumerate(rests))
                self.assertEqual(reach(tower(8), rests, value), (item,))


class SmallPlansTest(ReachingCase):
    def test_all_rests_and_values_near_0(self):
        for plan in SMALL:
            self.check_all_rests(plan, (-10, -3, -2, -1, 0, 1, 2, 3, 10))

    def test_all_offsets(self):
        for plan in (HALF, CHAIN, FOUR, BLEND, LESS, ADDED):
            for offsets in product(*map(range, divisors_of(plan))):
                self.check_all_rests(with_offsets(plan, offsets), (-1, 0, 4))

    def test_far_values(self):
        for plan in SMALL:
            for value in FAR + (GREAT, -GREAT):
                self.check(plan, tuple(divisor - 1 for divisor in divisors_of(plan)), value)
                self.check(plan, (0,) * len(divisors_of(plan)), value)


class BoundsTest(ReachingCase):
    def check_some_rests(self, plan):
        for rests in rests_for(plan):
            for value in (0, 1, -1, 5, -GREAT) + FAR:
                self.check(plan, rests, value)

    def test_plans_of_all_kinds(self):
        for plan in PLANS:
            self.check_some_rests(plan)

    def test_all_bounds_at_once(self):
        self.assertEqual((len(divisors_of(FULL)), len(inputs_in(FULL)), max(divisors_of(FULL))), (12, 24, GREAT))
        self.check_some_rests(FULL)

    def test_chains_eight_deep(self):
        for weights in ((1,), (-1,), (3, 2), (-6, 35), (GREAT, 1 - GREAT)):
            plan = stage_by(weights, GREAT, GREAT // 3)
            for at in range(7):
                plan = (GREAT - at, at, ((weights[0], plan),) + tuple((weight, len(inputs_in(plan)) + place)
                                                                      for place, weight in enumerate(weights[1:])))
            self.assertIsNone(plan_error(plan))
            self.check_some_rests(plan)

    def test_twelve_stages_side_by_side(self):
        self.check_some_rests(row_of_stages(12))
        for weight in (-1, 2, GREAT):
            parts = tuple((weight, part[1]) for part in row_of_stages(12)[2][1:])
            self.check_some_rests((3, 1, ((-1, (2, 0, ((1, 0),))),) + parts))

    def test_24_inputs(self):
        for weights in ((1,) * 24, (GREAT,) * 23 + (1,), (-1,) + (GREAT,) * 23, (6, 10, 15) * 8,
                        (2,) * 23 + (1 - GREAT,)):
            self.check_some_rests(stage_by(weights))
        self.check_some_rests(WIDE)

    def test_thrown_plans(self):
        for begin in range(12):
            dice = Dice(begin)
            plan = thrown_plan(dice, 1 + dice.below(12), 12 + dice.below(13), (1, 2, 6, 4096, GREAT - 1, GREAT),
                               (1, -1, 6, -10, 15, 1 - GREAT, GREAT))
            self.assertIsNone(plan_error(plan))
            self.check_some_rests(plan)


class WeightsTest(ReachingCase):
    def test_what_these_weights_are(self):
        for weights in ALL_BUT_TOGETHER:
            self.assertIsNone(plan_error(stage_by(weights)))
        for weights in ALL_BUT_TOGETHER[:3] + ALL_BUT_TOGETHER[-3:]:
            for at in range(len(weights)):
                self.assertGreater(gcd(*weights[:at], *weights[at + 1:]), 1)

    def test_a_common_divisor_but_for_all_together(self):
        for weights in ALL_BUT_TOGETHER:
            plan = stage_by(weights)
            self.check_all_rests(plan, tuple(range(-9, 10)) + FAR)

    def test_in_front_of_stages(self):
        for weights in ALL_BUT_TOGETHER[:9]:
            stages = [(weight, (5, 3, ((-1, at),))) for at, weight in enumerate(weights)]
            for many in range(1, len(stages) + 1):
                plan = (4, 3, tuple(stages[:many]) + tuple((weights[at], at) for at in range(many, len(weights))))
                for rests in product(range(4), *[(0, 2, 4)] * many):
                    for value in (-2, FAR[-1]):
                        self.check(plan, rests, value)

    def test_in_whatever_order_the_inputs_stand(self):
        plan = (7, 4, ((6, 2), (10, 0), (15, 1)))
        self.check_all_rests(plan, range(-5, 6))


class UnfitTest(ReachingCase):
    def test_what_is_no_integer(self):
        for plan, rests in ((HALF, (1,)), (BLEND, (2, 1)), (FULL, (0,) * 12), (ADDED, (0, 0))):
            for value in NO_INTEGERS:
                self.assert_refuses(reach, {"plan": plan, "rests": rests, "value": value}, Unfit, {})

    def test_by_turns(self):
        for _ in range(2):
            self.assertEqual(reach((6, 5, ((-1, 0),)), (2,), 1), (-3,))
            self.assertRaises(Unfit, reach, (6, 5, ((-1, 0),)), (2,), True)
            self.assertEqual(reach((6, 5, ((-1, 0),)), (5,), 0), (0,))
            self.assertRaises(Unfit, reach, (6, 5, ((-1, 0),)), (5,), False)

    def test_other_plans_between(self):
        plans = (BLEND, with_offsets(BLEND, (0, 1)), LESS, FOUR, WIDE, FULL)
        rows = [reach(plan, rests_for(plan)[2], 7) for plan in plans]
        for plan, row in reversed(list(zip(plans, rows))):
            self.assert_same(reach(plan, rests_for(plan)[2], 7), row)


class WhatHoldsTest(ReachingCase):
    def test_each_error_comes_with_each_value(self):
        for plan in SMALL:
            for value in (-7, -1, 0, 1, 10 ** 60):
                every_rests = product(*map(range, divisors_of(plan)))
                errors = {error_of(plan, reach(plan, rests, value)) for rests in every_rests}
                self.assertEqual(errors, set(all_slips(plan)))

    def test_the_error_is_that_of_the_rests(self):
        for plan in PLANS:
            for rests in rests_for(plan):
                told = zip(shares_of(plan), offsets_of(plan), rests, divisors_of(plan), strict=True)
                total = sum(worth(share) * Fraction(offset - rest, divisor) for share, offset, rest, divisor in told)
                for value in (0, -GREAT):
                    self.assertEqual(worth(error_of(plan, reach(plan, rests, value))), total)


class InterfaceTest(unittest.TestCase):
    def test_it_is_defined_in_its_own_file(self):
        self.assertEqual(reach.__module__, "stagecuts.reaching")


if __name__ == "__main__":
    unittest.main()
