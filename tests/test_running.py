import unittest
from fractions import Fraction
from itertools import product

from strict import (
    ADDED,
    BLEND,
    CHAIN,
    FOUR,
    FULL,
    GREAT,
    HALF,
    LESS,
    MIXED,
    ONE,
    PLANS,
    WIDE,
    StrictCase,
    divisors_of,
    moving_by,
    numbers,
    pair_of,
    row_of_stages,
    run,
    tower,
    worth,
)

from stagecuts.plans import inputs_of, offsets_of, stages_of, with_offsets
from stagecuts.running import error_of, exact_of, rests_of, told_by
from stagecuts.shares import form_of, shares_of

ALL_ONES = (1, 0, ((2, 3), (-1, (1, 0, ((3, 0), (-1, (1, 0, ((-5, 1), (2, 2))))))), (1, (1, 0, ((-1, 4),)))))
FUNCTIONS = (told_by, rests_of, exact_of, error_of)


def rows_of(plan):
    """Return rows of noughts, of small items, and of ever greater ones, of both signs."""
    many = inputs_of(plan)
    rows = [(0,) * many, (1,) * many, (-1,) * many, tuple(range(many)), tuple(range(0, -many, -1))]
    for size in (1, 3, 10, 1000, GREAT, 10 ** 60):
        rows += [numbers(many, size, begin) for begin in (1, 2, 3)]
    return rows


def all_of_run(plan, row):
    """Return what all four functions have to tell, by a way of its own."""
    told, rests, exact = run(plan, row)
    return (told, rests, pair_of(exact), pair_of(told - exact))


class RunningCase(StrictCase):
    def check(self, plan, row, *wanted):
        """Check what is told, the rests, the exact value and the error at row."""
        for function, result in zip(FUNCTIONS, wanted, strict=True):
            self.assert_tells(function, {"plan": plan, "row": row}, result)

    def check_rows(self, plan, rows):
        for row in rows:
            self.check(plan, row, *all_of_run(plan, row))


class OneStageTest(RunningCase):
    def test_cutting_off_goes_downwards(self):
        plan = (4, 0, ((1, 0),))
        self.check(plan, (-5,), -2, (3,), (-5, 4), (-3, 4))
        self.check(plan, (-4,), -1, (0,), (-1, 1), (0, 1))
        self.check(plan, (-3,), -1, (1,), (-3, 4), (-1, 4))
        self.check(plan, (-1,), -1, (3,), (-1, 4), (-3, 4))
        self.check(plan, (0,), 0, (0,), (0, 1), (0, 1))
        self.check(plan, (3,), 0, (3,), (3, 4), (-3, 4))
        self.check(plan, (4,), 1, (0,), (1, 1), (0, 1))

    def test_the_offset_is_added_ahead(self):
        plan = (4, 2, ((1, 0),))
        self.check(plan, (-7,), -2, (3,), (-7, 4), (-1, 4))
        self.check(plan, (-6,), -1, (0,), (-3, 2), (1, 2))
        self.check(plan, (-3,), -1, (3,), (-3, 4), (-1, 4))
        self.check(plan, (-2,), 0, (0,), (-1, 2), (1, 2))
        self.check(plan, (0,), 0, (2,), (0, 1), (0, 1))
        self.check(plan, (1,), 0, (3,), (1, 4), (-1, 4))
        self.check(plan, (2,), 1, (0,), (1, 2), (1, 2))

    def test_a_weight_below_0(self):
        plan = (6, 5, ((-1, 0),))
        self.check(plan, (-39,), 7, (2,), (13, 2), (1, 2))
        self.check(plan, (-1,), 1, (0,), (1, 6), (5, 6))
        self.check(plan, (0,), 0, (5,), (0, 1), (0, 1))
        self.check(plan, (5,), 0, (0,), (-5, 6), (5, 6))
        self.check(plan, (6,), -1, (5,), (-1, 1), (0, 1))
        self.check(plan, (7,), -1, (4,), (-7, 6), (1, 6))
        self.check(plan, (11,), -1, (0,), (-11, 6), (5, 6))

    def test_great_numbers(self):
        self.check(ONE, (0,), 0, (GREAT - 1,), (0, 1), (0, 1))
        self.check(ONE, (1,), 0, (GREAT - 2,), (-1, GREAT), (1, GREAT))
        self.check(ONE, (-1,), 1, (0,), (1, GREAT), (GREAT - 1, GREAT))
        self.check(ONE, (GREAT,), -1, (GREAT - 1,), (-1, 1), (0, 1))
        self.check(ONE, (-10 ** 60,), GREAT, (GREAT - 1,), (GREAT, 1), (0, 1))
        self.check(ONE, (10 ** 60 + 1,), -GREAT, (GREAT - 2,), (-10 ** 60 - 1, GREAT), (1, GREAT))

    def test_multiples_of_the_divisor_and_one_off(self):
        for divisor in (2, 3, 10, 4096, GREAT - 1, GREAT):
            for times in (0, 1, -1, 7, -7, GREAT, -10 ** 60):
                plan, item = (divisor, 0, ((1, 0),)), times * divisor
                self.check(plan, (item,), times, (0,), (times, 1), (0, 1))
                self.assertEqual((told_by(plan, (item - 1,)), rests_of(plan, (item - 1,))), (times - 1, (divisor - 1,)))
                self.assertEqual((told_by(plan, (item + 1,)), rests_of(plan, (item + 1,))), (times, (1,)))
                self.assertEqual(error_of(plan, (item - 1,)), (1 - divisor, divisor))
                self.assertEqual(error_of(plan, (item + 1,)), (-1, divisor))


class WorkedOutTest(RunningCase):
    def test_half(self):
        self.check(HALF, (3, 4), 3, (1,), (7, 2), (-1, 2))
        self.check(HALF, (-3, -4), -4, (1,), (-7, 2), (-1, 2))
        self.check(HALF, (3, -3), 0, (0,), (0, 1), (0, 1))

    def test_chain(self):
        self.check(CHAIN, (1, 1, 0), 1, (0, 1), (3, 4), (1, 4))
        self.check(CHAIN, (0, 1, 0), 0, (1, 1), (1, 4), (-1, 4))
        self.check(CHAIN, (0, -1, 0), 0, (0, 1), (-1, 4), (1, 4))

    def test_four(self):
        self.check(FOUR, (1, 1, 0, 0), 1, (0, 0, 0), (1, 2), (1, 2))
        self.check(FOUR, (1, 0, 1, 0), 0, (1, 1, 1), (1, 2), (-1, 2))
        self.check(FOUR, (1, 0, 1, 1), 1, (0, 1, 0), (3, 4), (1, 4))
        self.check(FOUR, (1, 1, 1, 0), 1, (0, 0, 1), (3, 4), (1, 4))

    def test_blend_and_less(self):
        self.check(BLEND, (5, 7, 2), 4, (2, 1), (35, 8), (-3, 8))
        self.check(BLEND, (-1, 0, 1), -1, (1, 1), (-7, 8), (-1, 8))
        self.check(BLEND, (0, 0, 0), 0, (1, 0), (0, 1), (0, 1))
        self.check(LESS, (4, 5, 1), 1, (0, 2), (5, 6), (1, 6))
        self.check(LESS, (0, 0, 1), -1, (1, 0), (-1, 3), (-2, 3))

    def test_a_stage_that_divides_by_1_cuts_off_nothing(self):
        self.check(ADDED, (5, -4, 2), 12, (0, 0), (12, 1), (0, 1))
        self.check(ALL_ONES, (1, 2, 3, 4, 5), -4, (0,) * 4, (-4, 1), (0, 1))
        self.check(ALL_ONES, (0, 10 ** 60, 0, 0, 0), -5 * 10 ** 60, (0,) * 4, (-5 * 10 ** 60, 1), (0, 1))

    def test_inputs_that_are_not_in_order(self):
        # 3 * 2 - 5 is 1: 0, and 1 is left; 4 + 0 + 9 is 13: 1, and 3 left; 6 - 4 + 7 + 1 is 10.
        self.check(MIXED, (-1, 4, 7, 6, 2), 3, (1, 3, 1), (227, 60), (-47, 60))

    def test_stages_behind_more_than_ten_inputs(self):
        row = (3, 0, 0, 4, 0, 0, 0, 0, 0, 0, 0, 0, 1, 0, 0, 0)
        self.check(WIDE, row, 0, (6, 0, 4, 5, 1, 3, 2, 8), (7, 20), (-7, 20))

    def test_eleven_stages_side_by_side(self):
        row = (1, 0, 0, 3, 0, -1, 0, 0, 0, 5, 2)
        # They tell 0, 0, 0, 1, 0, -1, 0, 0, 0, 2, 1.
        self.check(row_of_stages(12), row, 1, (1, 1, 0, 0, 1, 0, 1, 0, 0, 0, 1, 0), (5, 2), (-3, 2))

    def test_eight_stages_one_within_another(self):
        self.check(tower(8), (256,), 1, (0,) * 8, (1, 1), (0, 1))
        self.check(tower(8), (255,), 0, (1,) * 8, (255, 256), (-255, 256))
        self.check(tower(8), (-1,), -1, (1,) * 8, (-1, 256), (-255, 256))
        self.check(tower(8), (6,), 0, (0, 0, 0, 0, 0, 1, 1, 0), (3, 128), (-3, 128))


class AllPlansTest(RunningCase):
    def test_rows_of_many_sizes(self):
        for plan in PLANS + (ALL_ONES,):
            self.check_rows(plan, rows_of(plan))

    def test_all_small_rows(self):
        for plan in (HALF, CHAIN, BLEND, LESS, ADDED):
            for row in product(range(-3, 4), repeat=inputs_of(plan)):
                results = [function(plan, row) for function in FUNCTIONS]
                self.assert_same(tuple(results), all_of_run(plan, row))

    def test_thousands_of_figures(self):
        for plan in PLANS:
            small = numbers(inputs_of(plan), 10 ** 100)
            self.check_rows(plan, (tuple(item * 10 ** 3000 + item for item in small),))

    def test_more_figures_than_python_writes(self):
        size = 10 ** 9000
        for item in (size, -size, size + 1, -size - 1):
            self.assertEqual(told_by((3, 1, ((1, 0),)), (item,)), (item + 1) // 3)
            self.assertEqual(rests_of((3, 1, ((1, 0),)), (item,)), ((item + 1) % 3,))
            self.assertEqual(exact_of((3, 1, ((1, 0),)), (3 * item,)), (item, 1))
            self.assertEqual(exact_of((10, 1, ((-1, 0),)), (item,)), pair_of(Fraction(-item, 10)))
            self.assertEqual(error_of((10, 1, ((-1, 0),)), (10 * item + 2,)), (-4, 5))

    def test_two_plans_by_turns(self):
        pairs = ((BLEND, LESS), (CHAIN, with_offsets(CHAIN, (0, 1))), (WIDE, FULL), (FOUR, with_offsets(FOUR, (0, 1, 1))))
        for first, second in pairs:
            for _ in range(2):
                for plan, other in ((first, second), (second, first)):
                    for row in rows_of(plan)[:8]:
                        results = []
                        for function in FUNCTIONS:
                            results.append(function(plan, row))
                            function(other, rows_of(other)[3])
                        self.assert_same(tuple(results), all_of_run(plan, row))

    def test_offsets_do_not_change_the_exact_value(self):
        for plan in PLANS:
            divisors = divisors_of(plan)
            for offsets in ((0,) * len(divisors), tuple(divisor - 1 for divisor in divisors)):
                other = with_offsets(plan, offsets)
                for row in rows_of(plan)[::4]:
                    self.assert_same(exact_of(other, row), exact_of(plan, row))
                    self.check(other, row, *all_of_run(other, row))


class WhatHoldsTest(RunningCase):
    def test_the_error_is_the_sum_over_all_stages(self):
        for plan in PLANS:
            for row in rows_of(plan):
                told = zip(shares_of(plan), offsets_of(plan), rests_of(plan, row), divisors_of(plan), strict=True)
                total = sum(worth(share) * Fraction(offset - rest, divisor) for share, offset, rest, divisor in told)
                self.assertEqual(worth(error_of(plan, row)), total)

    def test_what_is_told_is_the_exact_value_and_the_error(self):
        for plan in PLANS:
            for row in rows_of(plan):
                found = worth(exact_of(plan, row)) + worth(error_of(plan, row))
                self.assertEqual(found, told_by(plan, row))

    def test_there_is_a_rest_for_each_stage(self):
        for plan in PLANS:
            for row in rows_of(plan):
                rests = rests_of(plan, row)
                self.assertEqual(len(rests), len(stages_of(plan)))
                for rest, divisor in zip(rests, divisors_of(plan)):
                    self.assertTrue(0 <= rest < divisor)

    def test_an_input_moved_by_the_divisors_of_its_stages(self):
        for plan in PLANS:
            for at in range(inputs_of(plan)):
                step = moving_by(plan, at)
                grown = step * worth(form_of(plan)[at])
                self.assertEqual(grown.denominator, 1)
                for row in rows_of(plan)[2::5]:
                    for sign in (1, -1):
                        moved = row[:at] + (row[at] + sign * step,) + row[at + 1:]
                        self.assertEqual(rests_of(plan, moved), rests_of(plan, row))
                        self.assertEqual(told_by(plan, moved) - told_by(plan, row), sign * grown)
                        self.assertEqual(worth(exact_of(plan, moved)) - worth(exact_of(plan, row)), sign * grown)
                        self.assertEqual(error_of(plan, moved), error_of(plan, row))


class InterfaceTest(unittest.TestCase):
    def test_all_are_defined_in_their_own_file(self):
        for function in FUNCTIONS:
            self.assertEqual(function.__module__, "stagecuts.running")


if __name__ == "__main__":
    unittest.main()
