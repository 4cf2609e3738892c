import unittest
from fractions import Fraction
from itertools import product
from math import prod

from strict import (
    ADDED,
    CHAIN,
    FOUR,
    FULL,
    GREAT,
    HALF,
    ONE,
    PLANS,
    SMALL,
    WIDE,
    StrictCase,
    all_rows,
    divisors_of,
    numbers,
    pair_of,
    row_of_stages,
    run,
    tower,
    worth,
)

from stagecuts.errors import TooMany
from stagecuts.plans import inputs_of, offsets_of, plan_error, with_offsets
from stagecuts.running import error_of
from stagecuts.shares import shares_of
from stagecuts.slips import all_slips, greatest_slip, least_slip

# The products of all their divisors are 4096 or a little less.
ENOUGH = (
    (4096, 7, ((1, 0),)), (4095, 0, ((-1, 0),)), row_of_stages(12), (64, 63, ((-1, (64, 0, ((1, 0),))),)),
    (1, 0, ((3, (4096, 4095, ((1, 0),))), (1, 1))), (16, 3, ((5, (256, 9, ((1, 0),))), (-7, 1))),
    (8, 0, ((1, (8, 1, ((1, (8, 2, ((1, (8, 7, ((1, 0),))),))),))),)),
    (1, 0, ((1, (1, 0, ((1, (2, 1, ((1, (2048, 5, ((-1, 0),))),))),))),)),
)
TOO_MANY = (
    (4097, 0, ((1, 0),)), (4098, 4097, ((-1, 0),)), (GREAT, 0, ((1, 0),)), ONE, FULL, WIDE,
    (17, 0, ((1, (241, 0, ((1, 0),))),)), (64, 0, ((1, (65, 0, ((1, 0),))),)),
    (1, 0, ((1, (4097, 0, ((1, 0),))),)), (4, 0, row_of_stages(12)[2]), (2, 0, ((1, tower(7)), (1, (64, 0, ((1, 1),))))),
    # These have few errors: many sums of what their stages add are one and the same.
    (1, 0, tuple((1, (3, 0, ((1, at),))) for at in range(8))), (3, 0, row_of_stages(12)[2]),
    (1, 0, ((1, (2, 1, ((1, 0),))), (2, (4096, 0, ((1, 1),))))),
)


def by_all_rows(plan):
    """Return all errors, seen at rows that have all the rests that come ([B5])."""
    found = set()
    for row in all_rows(plan):
        told, _, exact = run(plan, row)
        found.add(told - exact)
    return tuple(pair_of(error) for error in sorted(found))


def by_all_rests(plan):
    """Return all errors as sums over the stages, by all rests ([C5])."""
    sums = {Fraction(0)}
    for share, offset, divisor in zip(shares_of(plan), offsets_of(plan), divisors_of(plan)):
        added = [worth(share) * (offset - rest) / divisor for rest in range(divisor)]
        sums = {ahead + one for ahead in sums for one in added}
    return tuple(pair_of(error) for error in sorted(sums))


def ends_of(plan):
    """Return the least and the greatest error by what each stage adds by its end rests."""
    least = greatest = Fraction(0)
    for share, offset, divisor in zip(shares_of(plan), offsets_of(plan), divisors_of(plan)):
        added = [worth(share) * Fraction(offset - rest, divisor) for rest in (0, divisor - 1)]
        least, greatest = least + min(added), greatest + max(added)
    return (pair_of(least), pair_of(greatest))


def some_offsets(plan):
    """Return noughts, the greatest offsets, some between, and those at one stage alone."""
    divisors = divisors_of(plan)
    found = [(0,) * len(divisors), tuple(divisor - 1 for divisor in divisors)]
    found.append(tuple(divisor // 2 for divisor in divisors))
    found.append(tuple(divisor * at % divisor // 3 for at, divisor in enumerate(divisors)))
    for at, divisor in enumerate(divisors):
        found.append((0,) * at + (divisor - 1,) + (0,) * (len(divisors) - at - 1))
    return found


class SlipsCase(StrictCase):
    def check_ends(self, plan, least, greatest):
        self.assert_tells(least_slip, {"plan": plan}, least)
        self.assert_tells(greatest_slip, {"plan": plan}, greatest)

    def check_all(self, plan, slips):
        self.assert_tells(all_slips, {"plan": plan}, slips)
        self.check_ends(plan, slips[0], slips[-1])

    def test_what_is_used_here_are_plans(self):
        for plan in SMALL + ENOUGH + TOO_MANY:
            self.assertIsNone(plan_error(plan))


class WorkedOutTest(SlipsCase):
    def test_one_stage(self):
        self.check_all((3, 0, ((1, 0),)), ((-2, 3), (-1, 3), (0, 1)))
        self.check_all((3, 2, ((1, 0),)), ((0, 1), (1, 3), (2, 3)))
        self.check_all((4, 2, ((-1, 0),)), ((-1, 4), (0, 1), (1, 4), (1, 2)))
        self.check_all(HALF, ((-1, 2), (0, 1)))

    def test_stages_within_and_beside(self):
        self.check_all(CHAIN, ((-1, 4), (0, 1), (1, 4), (1, 2)))
        self.check_all(FOUR, ((-1, 2), (-1, 4), (0, 1), (1, 4), (1, 2)))
        self.check_all(row_of_stages(12), tuple(pair_of(Fraction(at, 4)) for at in range(-13, 1)))

    def test_a_share_below_0(self):
        plan = (1, 0, ((-3, (4, 1, ((1, 0),))), (1, 1)))
        self.check_all(plan, ((-3, 4), (0, 1), (3, 4), (3, 2)))
        self.check_all(with_offsets(plan, (0, 3)), ((-9, 4), (-3, 2), (-3, 4), (0, 1)))

    def test_order_is_that_of_the_worth(self):
        self.check_all((6, 0, ((1, 0),)), ((-5, 6), (-2, 3), (-1, 2), (-1, 3), (-1, 6), (0, 1)))
        self.check_all((6, 5, ((-1, 0),)), ((0, 1), (1, 6), (1, 3), (1, 2), (2, 3), (5, 6)))

    def test_divisors_1_alone(self):
        all_1 = (1, 0, ((5, 0), (-4, 1))), ADDED, (1, 0, ((1, 0),)), (1, 0, ((1, (1, 0, ((-1, 0),))),))
        for plan in all_1 + ((1, 0, tuple((1, (1, 0, ((1, at),))) for at in range(11))),):
            self.check_all(plan, ((0, 1),))

    def test_errors_other_than_0_wherever_a_divisor_is_not_1(self):
        for plan in SMALL:
            self.assertEqual(len(all_slips(plan)) == 1, set(divisors_of(plan)) == {1})

    def test_great_divisors(self):
        self.check_ends(ONE, (0, 1), (GREAT - 1, GREAT))
        self.check_ends((GREAT, 0, ((1, 0),)), (1 - GREAT, GREAT), (0, 1))
        self.check_ends((GREAT, 1, ((1, 0),)), pair_of(Fraction(2 - GREAT, GREAT)), (1, GREAT))
        turned = (GREAT, 0, ((-1, (GREAT, 5, ((1, 0),))),))
        self.check_ends(turned, pair_of(Fraction(GREAT - GREAT ** 2 - 5, GREAT ** 2)),
                        pair_of(Fraction(GREAT - 6, GREAT ** 2)))
        many = (1, 0, ((GREAT, (GREAT - 1, 1, ((1, 0),))), (1, 1)))
        self.check_ends(many, pair_of(Fraction(GREAT * (3 - GREAT), GREAT - 1)), pair_of(Fraction(GREAT, GREAT - 1)))


class AllRowsTest(SlipsCase):
    def test_small_plans_by_all_offsets(self):
        for plan in SMALL:
            for offsets in product(*map(range, divisors_of(plan))):
                other = with_offsets(plan, offsets)
                slips = by_all_rows(other)
                self.assert_same((all_slips(other), least_slip(other), greatest_slip(other)),
                                 (slips, slips[0], slips[-1]))

    def test_small_plans(self):
        for plan in SMALL:
            self.check_all(plan, by_all_rows(plan))

    def test_all_that_is_no_more_than_4096(self):
        for plan in ENOUGH:
            self.assertLessEqual(prod(divisors_of(plan)), 4096)
            self.check_all(plan, by_all_rests(plan))
        self.assertEqual(len(all_slips(ENOUGH[0])), 4096)

    def test_rows_have_no_other_errors(self):
        for plan in PLANS + SMALL:
            least, greatest = worth(least_slip(plan)), worth(greatest_slip(plan))
            for size in (1, 10, 10 ** 60):
                for begin in range(1, 9):
                    error = worth(error_of(plan, numbers(inputs_of(plan), size, begin)))
                    self.assertTrue(least <= error <= greatest)


class TooManyTest(SlipsCase):
    def test_more_than_4096(self):
        for plan in TOO_MANY:
            self.assertGreater(prod(divisors_of(plan)), 4096)
            self.assert_refuses(all_slips, {"plan": plan}, TooMany, {"limit": 4096})

    def test_both_ends_are_told_all_the_same(self):
        for plan in TOO_MANY:
            self.check_ends(plan, *ends_of(plan))

    def test_few_errors_are_too_many_rests(self):
        plan = (1, 0, tuple((1, (3, 0, ((1, at),))) for at in range(7)))
        self.check_all(plan, tuple(pair_of(Fraction(at, 3)) for at in range(-14, 1)))
        more = (1, 0, tuple((1, (3, 0, ((1, at),))) for at in range(8)))
        self.assert_refuses(all_slips, {"plan": more}, TooMany, {"limit": 4096})

    def test_by_turns(self):
        for _ in range(2):
            self.assert_same(all_slips(HALF), ((-1, 2), (0, 1)))
            self.assertRaises(TooMany, all_slips, TOO_MANY[0])
            self.assert_same(all_slips(with_offsets(HALF, (1,))), ((0, 1), (1, 2)))


class WhatHoldsTest(SlipsCase):
    def test_ends_are_sums_over_the_stages(self):
        for plan in PLANS + SMALL + ENOUGH + TOO_MANY:
            for offsets in some_offsets(plan):
                other = with_offsets(plan, offsets)
                self.assert_same((least_slip(other), greatest_slip(other)), ends_of(other))
            self.check_ends(plan, *ends_of(plan))

    def test_how_far_the_ends_are_apart(self):
        for plan in PLANS + SMALL + ENOUGH + TOO_MANY:
            told = zip(shares_of(plan), divisors_of(plan))
            apart = sum(abs(worth(share)) * (1 - Fraction(1, divisor)) for share, divisor in told)
            for offsets in some_offsets(plan):
                other = with_offsets(plan, offsets)
                self.assertEqual(worth(greatest_slip(other)) - worth(least_slip(other)), apart)

    def test_another_offset_moves_all_errors_alike(self):
        for plan in SMALL + ENOUGH[2:4]:
            own, shares, divisors = offsets_of(plan), shares_of(plan), divisors_of(plan)
            slips = [worth(slip) for slip in all_slips(plan)]
            for at, divisor in enumerate(divisors):
                for offset in {0, 1 % divisor, divisor // 2, divisor - 1}:
                    other = with_offsets(plan, own[:at] + (offset,) + own[at + 1:])
                    moved = worth(shares[at]) * (offset - own[at]) / divisor
                    wanted = tuple(pair_of(slip + moved) for slip in slips)
                    self.assert_same(all_slips(other), wanted)

    def test_ascending_and_each_once(self):
        for plan in SMALL + ENOUGH:
            slips = [worth(slip) for slip in all_slips(plan)]
            self.assertTrue(all(ahead < behind for ahead, behind in zip(slips, slips[1:])))


class InterfaceTest(unittest.TestCase):
    def test_all_are_defined_in_their_own_file(self):
        for function in (least_slip, greatest_slip, all_slips):
            self.assertEqual(function.__module__, "stagecuts.slips")


if __name__ == "__main__":
    unittest.main()
