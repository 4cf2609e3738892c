import unittest
from fractions import Fraction
from itertools import product
from math import floor, prod

from strict import (
    ADDED,
    BLEND,
    CHAIN,
    FOUR,
    FULL,
    GREAT,
    HALF,
    LESS,
    ONE,
    PLANS,
    SMALL,
    WIDE,
    Dice,
    StrictCase,
    all_rows,
    divisors_of,
    pair_of,
    row_of_stages,
    run,
    spread_by_stages,
    thrown_plan,
    tower,
    worth,
)

from stagecuts.errors import TooMany, Unfit
from stagecuts.offsets import best_offsets, offsets_for
from stagecuts.plans import offsets_of, plan_error, with_offsets
from stagecuts.rounding import rounding_paper
from stagecuts.slips import greatest_slip, least_slip

LINE = (2, 0, ((1, (4, 0, ((1, 0), (3, 1)))),))
TURNED = (2, 0, ((-1, (4, 0, ((1, 0),))),))
SPLIT = (2, 0, ((2, (2, 0, ((1, 0),))), (1, 1)))
# One rounding each: trees by 1 and -1, with stages that divide by 1 amid, at any weight.
ROUNDINGS = (
    HALF, CHAIN, BLEND, LESS, ADDED, LINE, TURNED, (1, 0, ((1, 0),)), (6, 5, ((-1, 0),)), (3, 0, ((1, 0),)),
    (3, 0, ((1, 0), (5, (1, 0, ((1, 1), (-1, 2)))))),
    (2, 0, ((-1, (3, 0, ((1, 0), (-1, (2, 0, ((-1, 1),)))))),)),
    (1, 0, ((-1, (1, 0, ((-1, (4, 3, ((5, 0), (-1, (1, 0, ((-1, (3, 1, ((2, 1), (-7, 2)))),)))))),))),)),
    (3, 2, ((7, (1, 0, ((1, 0), (-4, (1, 0, ((1, 1),)))))),
            (1, (1, 0, ((1, (1, 0, ((-1, (5, 2, ((1, 2),))),))), (9, 3)))))),
    (2, 1, ((-1, (2, 0, ((-1, (2, 1, ((-1, (2, 0, ((-1, (2, 1, ((1, 0),))),))),))),))),)),
    (1, 0, ((5, 0), (-4, (1, 0, ((-1, 1),))))),
)
# Two of more than 1 side by side, or one by a weight of 2 or more in one of more than 1.
NO_ROUNDINGS = (
    FOUR, SPLIT, row_of_stages(3), row_of_stages(12), FULL, WIDE, (1, 0, ((2, (2, 0, ((1, 0),))), (1, 1))),
    (1, 0, ((1, (2, 0, ((1, 0),))), (-1, (2, 1, ((1, 1),))))), (GREAT, 0, ((2, (2, 0, ((1, 0),))), (1, 1))),
    (4, 0, ((1, (1, 0, ((-3, (2, 0, ((1, 0),))), (1, 1)))),)),
)
# Of 30 figures: the product of all divisors has up to 240.
GREAT_ROUNDINGS = (
    ONE, (GREAT, 7, ((1, (GREAT - 1, 0, ((-1, 0), (GREAT, 1)))), (-GREAT, 2))),
    (GREAT, 0, ((-1, (GREAT, 0, ((1, 0),))),)),
    (GREAT, 0, ((-1, (1, 0, ((-1, (GREAT - 7, 1, ((-1, (3, 2, ((1, 0),))),))), (GREAT, 1)))), (GREAT, 2))),
    (GREAT, 1, ((1, (GREAT, 2, ((-1, (GREAT, 3, ((1, (GREAT, 4, ((-1, (GREAT, 5, ((-1, (GREAT, 6, (
        (1, (GREAT, 7, ((-1, (GREAT, 8, ((1, 0),))),))),))),))),))),))),))),)),
)


def by_all_offsets(plan, fraction):
    """Return the list of all offsets by which plan is the rounding that adds fraction."""
    rows = list(all_rows(plan))
    wanted = [floor(run(plan, row)[2] + fraction) for row in rows]
    found = []
    for offsets in product(*map(range, divisors_of(plan))):
        other = with_offsets(plan, offsets)
        if all(run(other, row)[0] == told for row, told in zip(rows, wanted)):
            found.append(offsets)
    return found


def greatest_error(plan, offsets):
    other = with_offsets(plan, offsets)
    return max(-worth(least_slip(other)), worth(greatest_slip(other)))


class OffsetsCase(StrictCase):
    def check(self, plan, fraction, offsets):
        self.assert_tells(offsets_for, {"plan": plan, "fraction": fraction}, offsets)

    def check_unfit(self, plan, *fractions):
        for fraction in fractions:
            self.assert_refuses(offsets_for, {"plan": plan, "fraction": fraction}, Unfit, {})

    def check_fits(self, plan, fraction):
        """Check that the offsets let plan round by adding fraction; return them."""
        offsets = self.told_alike(offsets_for, {"plan": plan, "fraction": pair_of(fraction)})
        self.assertEqual((type(offsets), len(offsets)), (tuple, len(divisors_of(plan))))
        for offset, divisor in zip(offsets, divisors_of(plan)):
            self.assertTrue(type(offset) is int and 0 <= offset < divisor)
        word, low, high = rounding_paper(with_offsets(plan, offsets))
        self.assertEqual(word, "one")
        self.assertTrue(worth(low) <= fraction < worth(high))
        return offsets

    def check_best(self, plan, wanted):
        found = self.told_alike(best_offsets, {"plan": plan})
        self.assertEqual((type(found), len(found)), (tuple, 2))
        error, offsets = found
        self.assert_same(error, pair_of(wanted))
        self.assertEqual((type(offsets), len(offsets)), (tuple, len(divisors_of(plan))))
        for offset, divisor in zip(offsets, divisors_of(plan)):
            self.assertTrue(type(offset) is int and 0 <= offset < divisor)
        self.assertEqual(greatest_error(plan, offsets), wanted)

    def test_what_is_used_here_are_plans(self):
        for plan in ROUNDINGS + NO_ROUNDINGS + GREAT_ROUNDINGS:
            self.assertIsNone(plan_error(plan))
        for plans, one in ((ROUNDINGS + GREAT_ROUNDINGS, True), (NO_ROUNDINGS, False)):
            self.assertEqual([spread_by_stages(plan) < 1 for plan in plans], [one] * len(plans))


class OffsetsForTest(OffsetsCase):
    def test_one_stage(self):
        for weight in (1, -1):
            for divisor in (1, 2, 3, 10, GREAT):
                for above in {0, 1 % divisor, divisor // 2, divisor - 1}:
                    plan = (divisor, divisor // 3, ((weight, 0),))
                    self.check(plan, pair_of(Fraction(above, divisor)), (above,))
                    self.check(plan, pair_of(Fraction(2 * above + 1, 2 * divisor)), (above,))

    def test_figures_of_stages_one_within_another(self):
        plan = (10, 0, ((1, (10, 0, ((1, (10, 0, ((1, 0),))),))),))
        self.check(plan, (123, 1000), (1, 2, 3))
        self.check(plan, (1239999, 10 ** 7), (1, 2, 3))
        self.check(plan, (1, 3), (3, 3, 3))
        self.check((10, 0, ((-1, (10, 0, ((1, (10, 0, ((1, 0),))),))),)), (123, 1000), (1, 7, 6))
        self.check((10, 0, ((-1, (10, 0, ((-1, (10, 0, ((1, 0),))),))),)), (123, 1000), (1, 7, 3))
        self.check((10, 0, ((1, (10, 0, ((-1, (10, 0, ((-1, 0),))),))),)), (123, 1000), (1, 2, 6))
        self.check((1, 0, ((-1, (10, 0, ((1, (7, 0, ((1, 0),))),))),)), (1, 2), (0, 4, 6))

    def test_stages_that_divide_by_1_have_no_figure(self):
        plan = (5, 0, ((3, (1, 0, ((1, 0), (-2, (1, 0, ((7, 1), (1, 2))))))), (-1, (1, 0, ((1, (4, 0, ((1, 3),))),)))))
        self.check(plan, (13, 20), (3, 0, 0, 0, 2))
        self.check((3, 0, ((1, 0), (5, (1, 0, ((1, 1), (-1, 2)))))), (1, 2), (1, 0))
        self.check((1, 0, ((4, (1, 0, ((-1, 0),))), (-3, 1))), (99, 100), (0, 0))

    def test_small_plans_by_all_offsets(self):
        for plan in ROUNDINGS:
            many = prod(divisors_of(plan))
            for above in range(-2, 2 * many + 3):
                fraction = Fraction(above, 2 * many)
                wanted = by_all_offsets(plan, fraction) if many < 24 or above % 11 == 0 else None
                if not 0 <= fraction < 1:
                    self.assertEqual(wanted or [], [])
                    self.check_unfit(plan, pair_of(fraction))
                else:
                    offsets = self.check_fits(plan, fraction)
                    self.assertIn(wanted, (None, [offsets]))

    def test_small_plans_that_are_no_rounding(self):
        for plan in NO_ROUNDINGS[:3] + NO_ROUNDINGS[6:8] + NO_ROUNDINGS[-1:]:
            for above in range(-1, 10):
                self.assertEqual(by_all_offsets(plan, Fraction(above, 8)), [])
                self.check_unfit(plan, pair_of(Fraction(above, 8)))

    def test_each_multiple_has_offsets_of_its_own(self):
        for plan in ROUNDINGS + (tower(8), (64, 5, ((-1, (64, 3, ((1, 0),))),))):
            many = prod(divisors_of(plan))
            every = {offsets_for(plan, pair_of(Fraction(above, many))) for above in range(many)}
            self.assertEqual(sorted(every), list(product(*map(range, divisors_of(plan)))))

    def test_in_between_they_are_those_of_the_multiple_ahead(self):
        for plan in ROUNDINGS + GREAT_ROUNDINGS:
            many = prod(divisors_of(plan))
            for above in {0, 1, many // 3, many // 2, many - 1}:
                if above < many:
                    offsets = self.check_fits(plan, Fraction(above, many))
                    for more in (Fraction(1, 2), Fraction(1, 10 ** 99), 1 - Fraction(1, 10 ** 99)):
                        self.assert_same(offsets_for(plan, pair_of((above + more) / many)), offsets)

    def test_great_divisors(self):
        for plan in GREAT_ROUNDINGS:
            many = prod(divisors_of(plan))
            for fraction in (0, Fraction(1, 2), Fraction(1, 3), Fraction(1, many), 1 - Fraction(1, many),
                             Fraction(22, 10 ** 40)):
                self.check_fits(plan, Fraction(fraction))
        self.check(ONE, (1, 2), (GREAT // 2,))
        self.check((GREAT, 0, ((-1, (GREAT, 0, ((1, 0),))),)), (1, 2), (GREAT // 2, GREAT - 1))
        self.check(GREAT_ROUNDINGS[4], (0, 1), (0, 0, GREAT - 1, GREAT - 1, 0, GREAT - 1, GREAT - 1, 0))

    def test_thrown_plans(self):
        ones = 0
        for begin in range(300):
            dice = Dice(begin)
            plan = thrown_plan(dice, 2 + dice.below(5), 4, (1, 1, 1, 2, 3, GREAT), (1, -1, 1, -1, 4))
            if spread_by_stages(plan) < 1:
                ones += 1
                for fraction in (Fraction(0), Fraction(2, 7), Fraction(dice.below(1000), 1000)):
                    self.check_fits(plan, fraction)
            else:
                self.check_unfit(plan, (0, 1), (1, 2))
        self.assertTrue(60 < ones < 240)


class UnfitTest(OffsetsCase):
    def test_below_0_and_from_1_on(self):
        for plan in ROUNDINGS + GREAT_ROUNDINGS:
            self.check_unfit(plan, (-1, 1), (-1, 8), (-1, 10 ** 400), (1, 1), (9, 8), (2, 1),
                             (10 ** 400 + 1, 10 ** 400), (-10 ** 400, 7))

    def test_a_spread_of_1_or_more(self):
        for plan in NO_ROUNDINGS:
            self.check_unfit(plan, (0, 1), (1, 2), (1, 3), (7, 8), (1, 1), (-1, 2), (10 ** 400 - 1, 10 ** 400))

    def test_just_below_0_and_just_below_1(self):
        below_1 = pair_of(1 - Fraction(1, 10 ** 400))
        self.check(HALF, below_1, (1,))
        self.check(LINE, below_1, (1, 3))
        self.check(TURNED, below_1, (1, 0))
        self.check(LINE, (0, 1), (0, 0))
        self.check(LINE, (1, 10 ** 400), (0, 0))
        self.check_unfit(LINE, (-1, 10 ** 400), (1, 1))

    def test_by_turns(self):
        for _ in range(2):
            self.check(LINE, (1, 2), (1, 0))
            self.check_unfit(SPLIT, (1, 2))
            self.check(TURNED, (1, 2), (1, 3))
            self.check_unfit(LINE, (1, 1))


class OwnOffsetsTest(OffsetsCase):
    def test_own_offsets_change_nothing(self):
        for plan in ROUNDINGS:
            for own in product(*map(range, divisors_of(plan))):
                self.assert_same(offsets_for(with_offsets(plan, own), (2, 5)), offsets_for(plan, (2, 5)))
        for plan in GREAT_ROUNDINGS:
            own = tuple(divisor - 1 for divisor in divisors_of(plan))
            self.assert_same(offsets_for(with_offsets(plan, own), (2, 5)), offsets_for(plan, (2, 5)))

    def test_those_of_the_first_fraction_that_will_do(self):
        for plan in ROUNDINGS:
            for own in product(*map(range, divisors_of(plan))):
                other = with_offsets(plan, own)
                self.assert_same(offsets_for(other, rounding_paper(other)[1]), own)
        for plan in GREAT_ROUNDINGS:
            self.check(plan, rounding_paper(plan)[1], offsets_of(plan))


class BestOffsetsTest(OffsetsCase):
    def test_worked_out(self):
        self.assert_tells(best_offsets, {"plan": (3, 0, ((1, 0),))}, ((1, 3), (1,)))
        self.assert_tells(best_offsets, {"plan": (1, 0, ((1, 0),))}, ((0, 1), (0,)))
        self.assert_tells(best_offsets, {"plan": ADDED}, ((0, 1), (0, 0)))
        for divisor in range(1, 30):
            for weight in (1, -1):
                error = Fraction(1, 2) if divisor % 2 == 0 else Fraction(divisor - 1, 2 * divisor)
                self.check_best((divisor, divisor // 2, ((weight, 0),)), error)
        for plan in (LINE, SPLIT, (4, 0, ((1, 0),)), CHAIN, FOUR):
            self.check_best(plan, Fraction(1, 2))
        # The spread is 9/4, and the middle of the errors is 3/8 off 0 at the least.
        self.check_best((1, 0, ((3, (4, 0, ((1, 0),))), (1, 1))), Fraction(3, 2))

    def test_against_all_offsets(self):
        others = [(1, 0, ((3, (4, 0, ((1, 0),))), (7, (5, 2, ((1, 1),))))),
                  (5, 1, ((2, (3, 1, ((1, 0),))), (-3, (7, 0, ((1, 1),)))))]
        for plan in SMALL + ROUNDINGS + NO_ROUNDINGS[:3] + tuple(others):
            every = product(*map(range, divisors_of(plan)))
            self.check_best(plan, min(greatest_error(plan, offsets) for offsets in every))

    def test_against_all_rows(self):
        for plan in SMALL:
            every = {}
            for offsets in product(*map(range, divisors_of(plan))):
                results = [run(with_offsets(plan, offsets), row) for row in all_rows(plan)]
                every[offsets] = max(abs(told - exact) for told, _, exact in results)
            error, offsets = best_offsets(plan)
            self.assertEqual(worth(error), min(every.values()))
            self.assertEqual(every[offsets], min(every.values()))

    def test_thrown_plans(self):
        for begin in range(120):
            dice = Dice(begin)
            plan = thrown_plan(dice, 1 + dice.below(5), 5, (1, 2, 3, 5), (1, -1, 2, -3, GREAT))
            if prod(divisors_of(plan)) <= 200:
                every = product(*map(range, divisors_of(plan)))
                self.check_best(plan, min(greatest_error(plan, offsets) for offsets in every))

    def test_with_a_spread_below_1(self):
        for plan in ROUNDINGS + (tower(8), (63, 0, ((-1, (65, 0, ((1, 0),))),)), (4096, 9, ((1, 0),))):
            even = prod(divisors_of(plan)) % 2 == 0
            self.check_best(plan, Fraction(1, 2) if even else spread_by_stages(plan) / 2)

    def test_never_less_than_half_the_spread(self):
        for plan in PLANS + SMALL:
            if prod(divisors_of(plan)) <= 4096:
                self.assertGreaterEqual(worth(best_offsets(plan)[0]), spread_by_stages(plan) / 2)

    def test_own_offsets_change_no_error(self):
        for plan in SMALL:
            for own in product(*map(range, divisors_of(plan))):
                error, offsets = best_offsets(with_offsets(plan, own))
                self.assertEqual(error, best_offsets(plan)[0])
                self.assertEqual(greatest_error(plan, offsets), worth(error))


class TooManyTest(OffsetsCase):
    def test_4096_just(self):
        # Two divisors of 64 and twelve of 2, and divisors of 1 that do not count.
        self.check_best((4096, 0, ((1, 0),)), Fraction(1, 2))
        self.check_best((64, 0, ((1, (64, 0, ((1, 0),))),)), Fraction(1, 2))
        self.check_best((64, 0, ((1, 0), (-1, (1, 0, ((1, (64, 0, ((1, 1),))),))))), Fraction(1, 2))
        self.check_best(row_of_stages(12), Fraction(7, 4))
        self.check_best((1, 0, ((3, (4095, 0, ((1, 0),))), (1, 1))), Fraction(3 * 4094, 2 * 4095))
        self.check_best((1, 0, ((GREAT, (4096, 0, ((1, 0),))), (1, 1))), Fraction(GREAT, 2))

    def test_more_than_4096(self):
        for plan in ((4097, 0, ((1, 0),)), (17, 0, ((1, (241, 0, ((1, 0),))),)), (64, 0, ((1, (65, 0, ((1, 0),))),)),
                     (1, 0, ((1, (4097, 4096, ((1, 0),))),)), (4, 0, row_of_stages(12)[2]), (GREAT, 0, ((1, 0),)), ONE,
                     FULL, WIDE):
            self.assertIsNone(plan_error(plan))
            self.assertGreater(prod(divisors_of(plan)), 4096)
            self.assert_refuses(best_offsets, {"plan": plan}, TooMany, {"limit": 4096})

    def test_offsets_for_has_no_such_limit(self):
        self.check((4097, 0, ((1, 0),)), (1, 2), (2048,))
        self.check((64, 0, ((1, (65, 0, ((1, 0),))),)), (1, 2), (32, 0))
        self.check((17, 0, ((-1, (241, 0, ((1, 0),))),)), (0, 1), (0, 240))


class EvenlyTest(OffsetsCase):
    def test_errors_lie_evenly_about_the_middle(self):
        for plan in SMALL + ROUNDINGS:
            for offsets in product(*map(range, divisors_of(plan))):
                other = with_offsets(plan, offsets)
                errors = {told - exact for told, _, exact in (run(other, row) for row in all_rows(other))}
                twice = min(errors) + max(errors)
                self.assertEqual({twice - error for error in errors}, errors)
                self.assertEqual(greatest_error(plan, offsets), spread_by_stages(plan) / 2 + abs(twice) / 2)


class InterfaceTest(unittest.TestCase):
    def test_all_are_defined_in_their_own_file(self):
        for function in (offsets_for, best_offsets):
            self.assertEqual(function.__module__, "stagecuts.offsets")


if __name__ == "__main__":
    unittest.main()
