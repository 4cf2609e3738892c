import unittest
from fractions import Fraction
from itertools import product
from math import floor

from strict import (
    ADDED,
    BLEND,
    CHAIN,
    FOUR,
    FULL,
    GREAT,
    HALF,
    LESS,
    ONE,
    PLANS,
    SMALL,
    WIDE,
    Dice,
    StrictCase,
    all_rows,
    divisors_of,
    inputs_in,
    pair_of,
    row_of_stages,
    run,
    spread_by_stages,
    thrown_plan,
    tower,
    worth,
)

from stagecuts.plans import plan_error, with_offsets
from stagecuts.rounding import rounding_holds, spread
from stagecuts.slips import greatest_slip, least_slip
from stagecuts.turning import beside, turned_by, turned_rows

FAR_APART = (1, 0, ((3, (4, 0, ((1, 0),))), (1, 1)))
# Their spreads are 1, 5/2, 33/4 and 5/3.
OTHERS = (
    (2, 0, ((2, (2, 0, ((1, 0),))), (1, 1))), (1, 0, ((-5, (2, 1, ((1, 0),))), (1, 1))),
    (1, 0, ((11, (4, 3, ((-1, 0),))), (-1, 1))), (2, 1, ((1, 0), (-1, (3, 1, ((2, 1), (7, (2, 0, ((1, 2),)))))))),
)


def most_turned(rows):
    """Return the most that is told more of one of rows than of one whose exact value is no less."""
    results = sorted((run_exact, told) for told, _, run_exact in rows)
    most, least_told = None, None
    at = len(results)
    # From the greatest exact value downwards: those of the same one count for each other.
    while at > 0:
        begin = at
        while begin > 0 and results[begin - 1][0] == results[at - 1][0]:
            begin -= 1
        alike = [told for _, told in results[begin:at]]
        least_told = min(alike) if least_told is None else min([least_told] + alike)
        most = max(alike) - least_told if most is None else max(most, max(alike) - least_told)
        at = begin
    return most


class TurningCase(StrictCase):
    def check_rows(self, plan):
        """Check turned_by and turned_rows of plan against each other and the spread."""
        many = self.told_alike(turned_by, {"plan": plan})
        self.assertEqual((type(many), many), (int, floor(spread_by_stages(plan))))
        rows = self.told_alike(turned_rows, {"plan": plan})
        self.assertEqual((type(rows), len(rows)), (tuple, 2))
        for row in rows:
            self.assertEqual((type(row), [type(item) for item in row]), (tuple, [int] * len(inputs_in(plan))))
        (told, _, exact), (other_told, _, other_exact) = [run(plan, row) for row in rows]
        self.assertLessEqual(exact, other_exact)
        self.assertEqual(told - other_told, many)
        self.assertEqual(rounding_holds(plan, ("two",) + rows), many > 0)

    def check_beside(self, plan, fraction, wanted):
        self.assert_tells(beside, {"plan": plan, "fraction": fraction}, wanted)

    def test_what_is_used_here_are_plans(self):
        for plan in OTHERS + (FAR_APART,):
            self.assertIsNone(plan_error(plan))


class TurnedTest(TurningCase):
    def test_worked_out(self):
        table = ((HALF, 0), (CHAIN, 0), (FOUR, 1), (FAR_APART, 2), (ADDED, 0), (ONE, 0), (BLEND, 0), (LESS, 0),
                 (tower(8), 0), (row_of_stages(12), 3), (OTHERS[0], 1), (OTHERS[1], 2), (OTHERS[2], 8), (OTHERS[3], 1),
                 ((1, 0, ((GREAT, (2, 0, ((1, 0),))), (1, 1))), GREAT // 2),
                 ((1, 0, ((GREAT, (GREAT, 0, ((1, 0),))), (1, 1))), GREAT - 1),
                 ((2, 0, ((-GREAT, (GREAT, 7, ((1, 0),))), (1, 1))), GREAT // 2))
        for plan, wanted in table:
            self.assert_tells(turned_by, {"plan": plan}, wanted)
            self.check_rows(plan)

    def test_plans_of_all_kinds(self):
        for plan in PLANS + SMALL + OTHERS + (FULL, WIDE):
            self.check_rows(plan)
            divisors = divisors_of(plan)
            self.check_rows(with_offsets(plan, (0,) * len(divisors)))
            self.check_rows(with_offsets(plan, tuple(divisor - 1 for divisor in divisors)))
        for begin in range(80):
            dice = Dice(begin)
            weights = dice.pick(((1, -1, 2), (1, -1, 5, -12), (1, GREAT, 1 - GREAT)))
            self.check_rows(thrown_plan(dice, 1 + dice.below(12), 13, (1, 2, 3, 7, GREAT), weights))

    def test_all_rows_nearby(self):
        for plan in SMALL + OTHERS + (FAR_APART,):
            for size in (6, 12):
                wide = size if len(inputs_in(plan)) < 3 else size // 3
                rows = [run(plan, row) for row in product(range(-wide, wide + 1), repeat=len(inputs_in(plan)))]
                self.assertLessEqual(most_turned(rows), turned_by(plan))
            self.assertEqual(most_turned(rows), turned_by(plan))

    def test_rows_by_which_all_rests_come(self):
        for plan in SMALL + OTHERS + (FAR_APART,):
            errors = {told - exact for told, _, exact in (run(plan, row) for row in all_rows(plan))}
            # What is told of a row may be any integer, by any error; so the exact values may be this far apart.
            most = max(floor(first - second) for first in errors for second in errors)
            self.assertEqual(turned_by(plan), most)

    def test_by_turns(self):
        for _ in range(2):
            for plan in (HALF, FOUR, FAR_APART, with_offsets(FOUR, (0, 1, 1)), FULL, OTHERS[1]):
                self.check_rows(plan)


class BesideTest(TurningCase):
    def test_worked_out(self):
        for fraction, wanted in (((1, 2), (True, False)), ((0, 1), (False, True)), ((1, 4), (False, True)),
                                 ((-1, 1), (False, True)), ((3, 2), (True, False)), ((499, 1000), (False, True))):
            self.check_beside(FOUR, fraction, wanted)
        for fraction, wanted in (((1, 2), (True, True)), ((3, 4), (True, False)), ((749, 1000), (True, True)),
                                 ((499, 1000), (False, True)), ((0, 1), (False, True)), ((-7, 2), (False, True))):
            self.check_beside(CHAIN, fraction, wanted)
        # Errors go from -9/4 to 0: from 0 on no floor is below, and just below -5/4 none is above.
        for fraction, wanted in (((0, 1), (True, False)), ((-1, 1), (False, False)), ((-5, 4), (False, False)),
                                 ((-4, 3), (False, True)), ((-2, 1), (False, True)), ((9, 1), (True, False))):
            self.check_beside(FAR_APART, fraction, wanted)

    def test_all_rows(self):
        for plan in SMALL + OTHERS + (FAR_APART,):
            results = [run(plan, row) for row in all_rows(plan)]
            for above in range(-60, 61):
                fraction = Fraction(above, 24)
                floors = [(floor(exact + fraction), told) for told, _, exact in results]
                wanted = (not any(found < told for found, told in floors),
                          not any(found > told for found, told in floors))
                self.assert_same(beside(plan, pair_of(fraction)), wanted)

    def test_both_ends(self):
        for plan in PLANS + SMALL + OTHERS:
            for other in (plan, with_offsets(plan, tuple(divisor - 1 for divisor in divisors_of(plan)))):
                low, high = worth(greatest_slip(other)), worth(least_slip(other)) + 1
                for off in (0, 1, Fraction(1, 7), Fraction(1, GREAT ** 13)):
                    for fraction in (low + off, low - off, high + off, high - off):
                        self.check_beside(other, pair_of(fraction), (fraction >= low, fraction < high))

    def test_both_just_by_the_fractions_that_will_do(self):
        for plan in SMALL:
            low, high = worth(greatest_slip(plan)), worth(least_slip(plan)) + 1
            for above in range(-24, 49):
                fraction = Fraction(above, 24)
                self.assertEqual(beside(plan, pair_of(fraction)) == (True, True), low <= fraction < high)

    def test_great_fractions(self):
        for plan in (HALF, FOUR, FULL):
            self.check_beside(plan, (10 ** 400, 1), (True, False))
            self.check_beside(plan, (-10 ** 400, 7), (False, True))
        self.check_beside(HALF, (1, 10 ** 400), (True, True))
        self.check_beside(HALF, (-1, 10 ** 400), (False, True))
        self.check_beside(HALF, pair_of(Fraction(1, 2) - Fraction(1, 10 ** 400)), (True, True))


class WhatHoldsTest(TurningCase):
    def test_turned_by_is_the_spread_cut_off(self):
        for plan in PLANS + SMALL + OTHERS:
            above, below = spread(plan)
            self.assertEqual(turned_by(plan), above // below)

    def test_none_just_if_one_rounding(self):
        for plan in PLANS + SMALL + OTHERS:
            low = greatest_slip(plan)
            self.assertEqual(turned_by(plan) == 0, beside(plan, low) == (True, True))

    def test_other_offsets_change_nothing(self):
        for plan in SMALL + OTHERS:
            every = product(*map(range, divisors_of(plan)))
            self.assertEqual({turned_by(with_offsets(plan, offsets)) for offsets in every}, {turned_by(plan)})


class InterfaceTest(unittest.TestCase):
    def test_all_are_defined_in_their_own_file(self):
        for function in (turned_by, turned_rows, beside):
            self.assertEqual(function.__module__, "stagecuts.turning")


if __name__ == "__main__":
    unittest.main()
