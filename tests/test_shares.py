import unittest
from fractions import Fraction

from strict import (
    ADDED,
    BLEND,
    CHAIN,
    FOUR,
    FULL,
    GREAT,
    HALF,
    LESS,
    MIXED,
    ONE,
    PLANS,
    WIDE,
    StrictCase,
    divisors_of,
    numbers,
    pair_of,
    row_of_stages,
    tower,
    worth,
)

from stagecuts.plans import inputs_of, stages_of, with_offsets
from stagecuts.running import exact_of
from stagecuts.shares import form_of, shares_of

BY_1 = (1, 0, ((3, (4, 1, ((1, 0),))), (-2, (1, 0, ((5, 1), (-3, 2))))))


def share_at(plan, way):
    """Return the share of the thing with this way, by going down to it."""
    share, stage = Fraction(1), plan
    for place in way:
        weight, beneath = stage[2][place]
        share, stage = share * weight / stage[0], beneath
    return share


class SharesCase(StrictCase):
    def check(self, plan, shares, form):
        self.assert_tells(shares_of, {"plan": plan}, shares)
        self.assert_tells(form_of, {"plan": plan}, form)


class WorkedOutTest(SharesCase):
    def test_one_stage(self):
        self.check(HALF, ((1, 1),), ((1, 2), (1, 2)))
        self.check(ONE, ((1, 1),), ((-1, GREAT),))
        self.check((6, 5, ((-1, 0),)), ((1, 1),), ((-1, 6),))
        self.check((1, 0, ((1, 0),)), ((1, 1),), ((1, 1),))
        self.check((12, 0, ((8, 1), (-9, 0), (12, 2))), ((1, 1),), ((-3, 4), (2, 3), (1, 1)))

    def test_stages_side_by_side(self):
        self.check(FOUR, ((1, 1), (1, 2), (1, 2)), ((1, 4),) * 4)
        self.check(row_of_stages(12), ((1, 1),) + ((1, 2),) * 11, ((1, 4),) * 11)

    def test_stages_one_within_another(self):
        self.check(CHAIN, ((1, 1), (1, 2)), ((1, 2), (1, 4), (1, 4)))
        self.check(tower(8), tuple((1, 2 ** at) for at in range(8)), ((1, 256),))

    def test_weights_below_0(self):
        self.check(BLEND, ((1, 1), (1, 4)), ((3, 4), (1, 8), (-1, 8)))
        self.check(LESS, ((1, 1), (-1, 2)), ((1, 2), (-1, 6), (-1, 3)))
        turned = (2, 0, ((-1, (3, 2, ((-2, (5, 0, ((-1, 0),))), (1, 1)))),))
        self.check(turned, ((1, 1), (-1, 2), (1, 3)), ((-1, 15), (-1, 6)))

    def test_divisors_1(self):
        self.check(ADDED, ((1, 1), (1, 1)), ((2, 1), (1, 1), (3, 1)))
        self.check(BY_1, ((1, 1), (3, 1), (-2, 1)), ((3, 4), (-10, 1), (6, 1)))

    def test_inputs_that_are_not_in_order(self):
        shares = ((1, 1), (-4, 3), (-2, 15))
        self.check(MIXED, shares, ((-1, 12), (-2, 15), (1, 3), (1, 3), (-1, 20)))

    def test_more_than_ten_parts(self):
        shares = ((1, 1), (2, 7), (3, 7), (-6, 35), (-1, 7), (1, 7), (1, 28), (GREAT, 7))
        form = ((1, 7), (2, 7), (3, 35), (-1, 35)) + ((1, 7),) * 6
        form += ((-1, 14), (1, 84), (1, 28), (5, 7), (GREAT, 63), (GREAT ** 2, 63))
        self.check(WIDE, shares, form)

    def test_great_numbers(self):
        inner = (GREAT, 1, ((GREAT - 1, 0), (GREAT, 1)))
        plan = (GREAT - 1, 0, ((-GREAT, inner), (1, 2)))
        self.check(plan, ((1, 1), (-GREAT, GREAT - 1)), ((-1, 1), (-GREAT, GREAT - 1), (1, GREAT - 1)))


class WhatHoldsTest(SharesCase):
    def test_each_share_by_its_way(self):
        for plan in PLANS + (BY_1,):
            shares = tuple(pair_of(share_at(plan, way)) for way in stages_of(plan))
            self.assert_tells(shares_of, {"plan": plan}, shares)

    def test_each_fraction_of_the_form_by_a_row_of_noughts_and_a_1(self):
        for plan in PLANS + (BY_1,):
            many = inputs_of(plan)
            rows = [tuple(int(at == place) for place in range(many)) for at in range(many)]
            self.assert_tells(form_of, {"plan": plan}, tuple(exact_of(plan, row) for row in rows))

    def test_the_exact_value_is_a_sum(self):
        for plan in PLANS + (BY_1,):
            for size in (1, 10, GREAT, 10 ** 60):
                row = numbers(inputs_of(plan), size)
                total = sum(item * worth(fraction) for item, fraction in zip(row, form_of(plan), strict=True))
                self.assertEqual(worth(exact_of(plan, row)), total)

    def test_offsets_change_nothing(self):
        for plan in PLANS + (BY_1,):
            shares, form = shares_of(plan), form_of(plan)
            divisors = divisors_of(plan)
            for offsets in ((0,) * len(divisors), tuple(divisor - 1 for divisor in divisors)):
                self.check(with_offsets(plan, offsets), shares, form)

    def test_there_is_one_for_each_stage_and_each_input(self):
        for plan in PLANS:
            self.assertEqual(len(shares_of(plan)), len(stages_of(plan)))
            self.assertEqual(len(form_of(plan)), inputs_of(plan))
            self.assertTrue(all(worth(fraction) != 0 for fraction in shares_of(plan) + form_of(plan)))

    def test_by_turns(self):
        wanted = [(shares_of(plan), form_of(plan)) for plan in PLANS]
        for _ in range(2):
            for plan, found in reversed(list(zip(PLANS, wanted))):
                self.assert_same((shares_of(plan), form_of(plan)), found)
        self.assertEqual((len(shares_of(FULL)), len(form_of(FULL))), (12, 24))


class InterfaceTest(unittest.TestCase):
    def test_all_are_defined_in_their_own_file(self):
        for function in (shares_of, form_of):
            self.assertEqual(function.__module__, "stagecuts.shares")


if __name__ == "__main__":
    unittest.main()
