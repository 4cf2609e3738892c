import unittest
from itertools import product

from strict import (
    ADDED,
    BLEND,
    CHAIN,
    FOUR,
    FULL,
    GREAT,
    HALF,
    LESS,
    MIXED,
    ONE,
    PLANS,
    SMALL,
    WIDE,
    Dice,
    StrictCase,
    all_rows,
    divisors_of,
    inputs_in,
    numbers,
    row_of_stages,
    run,
    spread_by_stages,
    thrown_plan,
    told,
    tower,
    worth,
)

from stagecuts.errors import TooMany, Unfit
from stagecuts.merging import joined, merged
from stagecuts.plans import inputs_of, plan_error, stages_of, with_offsets
from stagecuts.running import error_of, exact_of, told_by
from stagecuts.shares import form_of

MEANS = (2, 1, ((1, (2, 0, ((1, 0), (1, 1)))), (1, (2, 1, ((1, 2), (1, 3))))))
BELOW = (3, 1, ((1, (4, 2, ((-1, (2, 0, ((3, 0), (1, 1)))), (5, 2)))),))
# 10 ** 30 + 1 is the product of 101 and this.
OTHER = (GREAT + 1) // 101


def ways_in(thing, way=()):
    """Return the ways of thing and of all stages beneath it."""
    found = [way]
    for place, (_, beneath) in enumerate(thing[2]):
        if isinstance(beneath, tuple):
            found += ways_in(beneath, way + (place,))
    return sorted(found)


def part_at(plan, way):
    """Return the part (weight, stage) with this way; the outermost stage has no weight."""
    part = (None, plan)
    for place in way:
        part = part[1][2][place]
    return part


def with_stage(plan, way, stage):
    if not way:
        return stage
    divisor, offset, parts = plan
    weight, thing = parts[way[0]]
    changed = (weight, with_stage(thing, way[1:], stage))
    return (divisor, offset, parts[:way[0]] + (changed,) + parts[way[0] + 1:])


def can_be(plan):
    """Return the ways of the stages that can be merged."""
    found = [(way, part_at(plan, way)) for way in ways_in(plan) if way]
    return [way for way, (weight, stage) in found if stage[0] == 1 or weight in (1, -1)]


def merged_there(plan, way):
    """Return plan with the stage with this way merged, by the three rules as the document has them."""
    (N, c, parts), (w, (M, e, beneath)) = part_at(plan, way[:-1])[1], part_at(plan, way)
    ahead, behind = list(parts[:way[-1]]), list(parts[way[-1] + 1:])
    if M == 1:
        stage = (N, c, (*ahead, *((w * weight, thing) for weight, thing in beneath), *behind))
    else:
        ahead, behind = ([(M * weight, thing) for weight, thing in others] for others in (ahead, behind))
        if w == 1:
            stage = (M * N, e + M * c, (*ahead, *beneath, *behind))
        else:
            stage = (M * N, M - 1 - e + M * c, (*ahead, *((-weight, thing) for weight, thing in beneath), *behind))
    return with_stage(plan, way[:-1], stage)


def by_the_rules(plan):
    while can_be(plan):
        plan = merged_there(plan, can_be(plan)[0])
    return plan


def greatest_size(plan):
    sizes = list(divisors_of(plan))
    for way in ways_in(plan):
        sizes += [abs(weight) for weight, _ in part_at(plan, way)[1][2]]
    return max(sizes)


def some_rows(plan):
    many = len(inputs_in(plan))
    rows = [(0,) * many, (1,) * many, (-1,) * many]
    return rows + [numbers(many, size, begin) for size in (2, 10, 10 ** 60) for begin in (1, 2, 3)]


class MergingCase(StrictCase):
    def check_merged(self, plan):
        """Check merged against the rules, by what it tells, and as a plan; return it."""
        wanted = by_the_rules(plan)
        if greatest_size(wanted) > GREAT:
            self.assert_refuses(merged, {"plan": plan}, TooMany, {"limit": GREAT})
            return None
        self.assert_tells(merged, {"plan": plan}, wanted)
        self.assertIsNone(plan_error(wanted))
        for row in some_rows(plan):
            self.assertEqual((told(wanted, row), run(wanted, row)[2]), (told(plan, row), run(plan, row)[2]))
        return wanted


class StepsTest(MergingCase):
    def check(self, plan, wanted):
        self.assert_tells(merged, {"plan": plan}, wanted)
        self.assertEqual(self.check_merged(plan), wanted)

    def test_nothing_to_merge(self):
        for plan in (HALF, ONE, (1, 0, ((1, 0),)), (2, 0, ((2, (2, 1, ((1, 0),))), (1, 1))),
                     (1, 0, ((2, HALF), (1, 2)))):
            self.check(plan, plan)

    def test_by_1(self):
        self.check(CHAIN, (4, 2, ((2, 0), (1, 1), (1, 2))))
        self.check((3, 2, ((5, 0), (1, (4, 3, ((-1, 1), (6, 2)))), (-7, 3))),
                   (12, 11, ((20, 0), (-1, 1), (6, 2), (-28, 3))))

    def test_by_less_than_0(self):
        self.check(LESS, (6, 1, ((3, 0), (-1, 1), (-2, 2))))
        self.check((3, 2, ((5, 0), (-1, (4, 3, ((-1, 1), (6, 2)))), (-7, 3))),
                   (12, 8, ((20, 0), (1, 1), (-6, 2), (-28, 3))))
        self.check((3, 2, ((-1, (4, 0, ((1, 0),))),)), (12, 11, ((-1, 0),)))

    def test_divisor_1_by_any_weight(self):
        self.check(ADDED, (1, 0, ((2, 0), (1, 1), (3, 2))))
        for weight in (1, -1, 5, -7, GREAT):
            plan = (3, 2, ((1, 0), (weight, (1, 0, ((1, 1), (-1, 2)))), (4, 3)))
            self.check(plan, (3, 2, ((1, 0), (weight, 1), (-weight, 2), (4, 3))))

    def test_divisor_1_at_the_outermost_stage(self):
        self.check((1, 0, ((1, HALF), (3, 2))), (2, 0, ((1, 0), (1, 1), (6, 2))))
        self.check((1, 0, ((-1, HALF), (3, 2))), (2, 1, ((-1, 0), (-1, 1), (6, 2))))
        self.check((1, 0, ((1, (1, 0, ((1, (1, 0, ((-1, 0),))),))),)), (1, 0, ((-1, 0),)))

    def test_divisor_1_amid_others(self):
        self.check((2, 1, ((1, (1, 0, ((1, (3, 2, ((1, 0),))), (2, 1)))),)), (6, 5, ((1, 0), (6, 1))))
        self.check((2, 1, ((-1, (1, 0, ((-1, (3, 2, ((1, 0),))), (2, 1)))),)), (6, 5, ((1, 0), (-6, 1))))
        # What stands beneath the one that divides by 1 stands by 3 when that has gone up.
        plan = (2, 1, ((3, (1, 0, ((1, (3, 2, ((1, 0),))), (2, 1)))), (1, 2)))
        self.check(plan, (2, 1, ((3, (3, 2, ((1, 0),))), (6, 1), (1, 2))))

    def test_the_first_one_goes_up_and_the_others_stay(self):
        self.check(MEANS, (4, 2, ((1, 0), (1, 1), (2, (2, 1, ((1, 2), (1, 3)))))))
        self.check(FOUR, (4, 2, ((1, 0), (1, 1), (2, (2, 0, ((1, 2), (1, 3)))))))
        parts = ((1, 0),) + tuple((2, (2, 0, ((1, at),))) for at in range(1, 11))
        self.check(row_of_stages(12), (4, 0, parts))
        self.check((2, 0, ((-1, (3, 1, ((1, 0),))), (1, (5, 4, ((1, 1),))))), (6, 1, ((-1, 0), (3, (5, 4, ((1, 1),))))))
        self.check((2, 0, ((2, (3, 1, ((1, 0),))), (1, (5, 4, ((1, 1),))))), (10, 4, ((10, (3, 1, ((1, 0),))), (1, 1))))

    def test_one_beneath_that_stays_goes_ahead_of_one_behind(self):
        plan = (2, 0, ((2, (3, 1, ((1, (5, 2, ((1, 0),))), (4, 1)))), (1, (7, 6, ((1, 2),)))))
        self.check(plan, (14, 6, ((14, (15, 7, ((1, 0), (20, 1)))), (1, 2))))

    def test_each_behind_the_ones_merged_ahead(self):
        self.check(BELOW, (24, 13, ((-3, 0), (-1, 1), (10, 2))))
        self.check(tower(8), (256, 0, ((1, 0),)))
        self.check((5, 2, ((2, (1, 0, ((1, 0), (-3, 1)))), (3, 2))), (5, 2, ((2, 0), (-6, 1), (3, 2))))
        self.check(BLEND, (8, 2, ((6, 0), (1, 1), (-1, 2))))

    def test_not_one_merged_that_could_be_but_for_what_went_ahead(self):
        # The second stage stands by 1 until the first one multiplies its weight.
        plan = (1, 0, ((1, (2, 0, ((1, 0),))), (1, (1, 0, ((1, (3, 0, ((1, 1),))),)))))
        self.check(plan, (2, 0, ((1, 0), (2, (3, 0, ((1, 1),))))))
        self.check(plan[:2] + (plan[2][::-1],), (3, 0, ((1, 1), (3, (2, 0, ((1, 0),))))))

    def test_plans_of_all_kinds(self):
        for plan in PLANS + SMALL + (MEANS, BELOW):
            self.check_merged(plan)
            divisors = divisors_of(plan)
            self.check_merged(with_offsets(plan, (0,) * len(divisors)))
            self.check_merged(with_offsets(plan, tuple(divisor - 1 for divisor in divisors)))

    def test_thrown_plans(self):
        unlike = set()
        for begin in range(400):
            dice = Dice(begin)
            plan = thrown_plan(dice, 1 + dice.below(12), 12, (1, 2, 3, 10, 10 ** 5), (1, -1, 1, -1, 2, -6))
            found = self.check_merged(plan)
            unlike.add((len(ways_in(plan)), found and len(ways_in(found))))
        self.assertGreater(len(unlike), 40)


class SizesTest(MergingCase):
    def check_sizes(self, plan, fits):
        self.assertIsNone(plan_error(plan))
        self.assertEqual(self.check_merged(plan) is not None, fits)

    def test_a_divisor_of_10_to_the_30_and_one_more(self):
        for weight in (1, -1):
            for outer, inner, fits in ((10 ** 15, 10 ** 15, True), (GREAT, 1, True), (1, GREAT, True),
                                       (GREAT // 2, 2, True),
                                       (101, OTHER, False), (OTHER, 101, False), (GREAT, 2, False),
                                       (GREAT, GREAT, False),
                                       (10 ** 15, 10 ** 15 + 1, False), (10 ** 15 - 1, 10 ** 15 + 1, True)):
                self.check_sizes((outer, 0, ((weight, (inner, 0, ((1, 0),))),)), fits)
                self.check_sizes((outer, outer - 1, ((weight, (inner, inner - 1, ((1, 0),))),)), fits)
        self.check_sizes((10 ** 10, 0, ((1, (10 ** 10, 1, ((-1, (10 ** 10, 2, ((1, 0),))),))),)), True)
        self.check_sizes((10 ** 10, 0, ((1, (10 ** 10, 1, ((-1, (10 ** 10 + 1, 2, ((1, 0),))),))),)), False)

    def test_weights_beside_it(self):
        for sign in (1, -1):
            for weight, inner, fits in ((10 ** 15, 10 ** 15, True), (10 ** 29, 10, True), (OTHER, 101, False),
                                        (101, OTHER, False), (GREAT, 2, False)):
                self.check_sizes((1, 0, ((1, (inner, 0, ((1, 0),))), (sign * weight, 1))), fits)
                self.check_sizes((1, 0, ((sign * weight, 1), (-1, (inner, 0, ((1, 0),))))), fits)

    def test_weights_beneath_a_divisor_of_1(self):
        for sign in (1, -1):
            for weight, beneath, fits in ((10 ** 15, 10 ** 15, True), (10 ** 29, 10, True), (GREAT, 1, True),
                                          (1, GREAT, True),
                                          (101, OTHER, False), (OTHER, 101, False), (GREAT, 2, False)):
                self.check_sizes((7, 0, ((sign * weight, (1, 0, ((beneath, 0), (1, 1)))), (1, 2))), fits)
                self.check_sizes((7, 0, ((1, 2), (weight, (1, 0, ((1, 1), (-sign * beneath, 0)))))), fits)

    def test_what_is_great_beneath_one_that_stays(self):
        for inner, fits in ((10 ** 15, True), (10 ** 15 + 1, False)):
            plan = (2, 0, ((2, (10 ** 15, 0, ((1, (inner, 0, ((1, 0),))),))), (1, 1)))
            self.check_sizes(plan, fits)

    def test_great_without_merging(self):
        for plan in (ONE, (GREAT, 0, ((GREAT, 0), (1, 1))),
                     (GREAT, 0, ((2, (GREAT, 0, ((GREAT, 0), (1, 1)))), (GREAT - 1, 2)))):
            self.assert_tells(merged, {"plan": plan}, plan)

    def test_a_plan_at_all_bounds(self):
        # Two of its stages stand by the weight 1; by other weights all stay.
        self.check_sizes(FULL, False)
        plan = FULL[:2] + (tuple((weight if abs(weight) > 1 else GREAT, thing) for weight, thing in FULL[2]),)
        self.check_sizes(plan, True)
        self.assert_same(merged(plan), plan)

    def test_eight_deep_and_twelve_stages_to_10_to_the_30_just(self):
        plan = (10 ** 9, 10 ** 9 - 1, ((1, 0),))
        for at in range(7):
            plan = (1000, 7 * at, (((-1) ** at, plan), (10 ** (21 - 3 * at), at + 1)))
        sides = tuple(((-1) ** at * 3 ** at, (1, 0, ((1, 8 + at), (1, 12 + at), (-1, 16 + at)))) for at in range(4))
        plan = plan[:2] + (plan[2] + sides + tuple((1, at) for at in range(20, 24)),)
        self.assertEqual((len(stages_of(plan)), max(map(len, stages_of(plan))), inputs_of(plan)), (12, 7, 24))
        self.check_sizes(plan, True)
        self.assertEqual((merged(plan)[0], len(stages_of(merged(plan)))), (GREAT, 1))
        self.check_sizes((plan[0] + 1,) + plan[1:], False)

    def test_by_turns(self):
        for _ in range(2):
            self.check_sizes((GREAT, 0, ((1, (2, 0, ((1, 0),))),)), False)
            self.check_merged(BELOW)
            self.check_sizes((GREAT // 2, 0, ((1, (2, 0, ((1, 0),))),)), True)
            self.check_merged(with_offsets(BELOW, (0, 0, 1)))


class WhatHoldsTest(MergingCase):
    def thrown(self, many):
        for begin in range(many):
            dice = Dice(begin)
            yield thrown_plan(dice, 1 + dice.below(8), 6, (1, 1, 2, 3, 5), (1, -1, 1, -1, 2, -3)), dice

    def test_all_rows(self):
        for plan in SMALL + (MEANS, BELOW):
            other = merged(plan)
            for row in all_rows(plan):
                self.assertEqual(told_by(other, row), told_by(plan, row))
                self.assertEqual(exact_of(other, row), exact_of(plan, row))
                self.assertEqual(error_of(other, row), error_of(plan, row))

    def test_the_spread_and_the_form_stay(self):
        for plan, _ in self.thrown(200):
            self.assertEqual(spread_by_stages(merged(plan)), spread_by_stages(plan))
            self.assertEqual(form_of(merged(plan)), form_of(plan))

    def test_merged_of_merged(self):
        for plan in [plan for plan, _ in self.thrown(200)] + list(SMALL):
            other = merged(plan)
            self.assert_same(merged(other), other)
            for way in ways_in(other)[1:]:
                weight, stage = part_at(other, way)
                self.assertGreater(stage[0], 1)
                self.assertGreater(abs(weight), 1)

    def test_one_stage_just_if_one_rounding(self):
        seen = set()
        for plan in [plan for plan, _ in self.thrown(300)] + list(SMALL):
            one = len(stages_of(merged(plan))) == 1
            self.assertEqual(one, spread_by_stages(plan) < 1)
            seen.add((one, len(stages_of(plan)) > 3))
        self.assertEqual(len(seen), 4)

    def test_as_many_are_left_in_whatever_order(self):
        for plan, dice in self.thrown(150):
            many = len(stages_of(merged(plan)))
            for _ in range(4):
                other = plan
                while can_be(other):
                    other = merged_there(other, dice.pick(can_be(other)))
                self.assertEqual(len(ways_in(other)), many)
                for row in some_rows(plan)[:6]:
                    self.assertEqual(told(other, row), told(plan, row))


class JoinedCase(MergingCase):
    def check(self, plan, place, other, wanted):
        self.assert_tells(joined, {"plan": plan, "place": place, "other": other}, wanted)
        self.assertIsNone(plan_error(wanted))

    def check_unfit(self, plan, place, other):
        self.assert_refuses(joined, {"plan": plan, "place": place, "other": other}, Unfit, {})

    def check_told(self, plan, place, other):
        """Check what is joined by what it tells, by its stages and its spread."""
        whole = self.told_alike(joined, {"plan": plan, "place": place, "other": other})
        self.assertIsNone(plan_error(whole))
        many, more = len(inputs_in(plan)), len(inputs_in(other))
        self.assertEqual(sorted(inputs_in(whole)), list(range(many + more - 1)))
        for begin in (1, 2, 3):
            row = numbers(many + more - 1, (3, 50, 10 ** 40)[begin - 1], begin)
            inner = told(other, row[place:place + more])
            self.assertEqual(told(whole, row), told(plan, row[:place] + (inner,) + row[place + more:]))
        self.assertEqual(spread_by_stages(whole), spread_by_stages(plan)
                         + spread_by_stages(other) * abs(worth(form_of(plan)[place])))
        self.assertEqual(sorted(divisors_of(whole)), sorted(divisors_of(plan) + divisors_of(other)))
        return whole


class JoinedTest(JoinedCase):
    def test_worked_out(self):
        self.check(HALF, 0, HALF, (2, 0, ((1, (2, 0, ((1, 0), (1, 1)))), (1, 2))))
        self.check(HALF, 1, HALF, (2, 0, ((1, 0), (1, (2, 0, ((1, 1), (1, 2)))))))
        self.check((1, 0, ((-1, 0),)), 0, CHAIN, (1, 0, ((-1, CHAIN),)))
        self.check(CHAIN, 1, (3, 2, ((5, 1), (-2, 0))),
                   (2, 1, ((1, 0), (1, (2, 0, ((1, (3, 2, ((5, 2), (-2, 1)))), (1, 3)))))))

    def test_inputs_that_are_not_in_order(self):
        other = (3, 2, ((5, 2), (-2, 0), (1, 1)))
        plan = (7, 6, ((1, 3), (2, 1), (3, 0), (4, 2)))
        self.check(plan, 1, other, (7, 6, ((1, 5), (2, (3, 2, ((5, 3), (-2, 1), (1, 2)))), (3, 0), (4, 4))))
        self.check(plan, 3, other, (7, 6, ((1, (3, 2, ((5, 5), (-2, 3), (1, 4)))), (2, 1), (3, 0), (4, 2))))
        self.check(plan, 0, other, (7, 6, ((1, 5), (2, 3), (3, (3, 2, ((5, 2), (-2, 0), (1, 1)))), (4, 4))))

    def test_one_with_one_input_moves_nothing(self):
        self.check(BELOW, 2, (1, 0, ((1, 0),)), (3, 1, ((1, (4, 2, ((-1, (2, 0, ((3, 0), (1, 1)))),
                                                                    (5, (1, 0, ((1, 2),)))))),)))
        self.check(HALF, 0, ONE, (2, 0, ((1, ONE), (1, 1))))
        self.check(HALF, 1, ONE, (2, 0, ((1, 0), (1, (GREAT, GREAT - 1, ((-1, 1),))))))

    def test_at_each_input(self):
        plans = (HALF, CHAIN, FOUR, BLEND, LESS, ADDED, MIXED, ONE, BELOW, MEANS)
        for plan, other in product(plans, repeat=2):
            for place in range(len(inputs_in(plan))):
                self.check_told(plan, place, other)

    def test_places_that_are_none(self):
        for plan, other in product((HALF, CHAIN, ONE, WIDE), repeat=2):
            many = len(inputs_in(plan))
            for place in (-1, -2, -many, -many - 1, many, many + 1, 23, 24, GREAT, -GREAT, 10 ** 399):
                self.check_unfit(plan, place, other)

    def test_a_plan_joined_to_itself(self):
        self.check_told(MIXED, 3, MIXED)

    def test_by_turns(self):
        for _ in range(2):
            self.check_told(BLEND, 0, LESS)
            self.check_unfit(HALF, 2, HALF)
            self.check_told(LESS, 0, BLEND)


class TooGreatTest(JoinedCase):
    def chain_of(self, many):
        return tower(many, (2, 0, ((1, 0), (1, 1))))

    def test_eight_deep_and_one_more(self):
        for many in range(1, 8):
            self.check_told(self.chain_of(many), 0, self.chain_of(8 - many))
            self.check_told(self.chain_of(many), 1, self.chain_of(8 - many))
            self.check_unfit(self.chain_of(many), 0, self.chain_of(9 - many))
            self.check_unfit(self.chain_of(many), 1, self.chain_of(9 - many))
        self.check_unfit(self.chain_of(8), 0, HALF)

    def test_where_it_is_not_so_deep(self):
        plan = (2, 0, ((1, self.chain_of(7)), (1, 2)))
        self.check_told(plan, 2, self.chain_of(4))
        self.check_unfit(plan, 0, ONE)

    def test_twelve_stages_and_one_more(self):
        for many in range(1, 12):
            plan, other = row_of_stages(many) if many > 1 else HALF, row_of_stages(12 - many) if many < 11 else HALF
            self.check_told(plan, 0, other)
            self.check_unfit(plan, 0, (2, 0, ((1, other),)))
        self.check_unfit(row_of_stages(12), 5, ONE)
        self.check_unfit(ONE, 0, row_of_stages(12))

    def test_24_inputs_and_one_more(self):
        def wide(many):
            return (2, 0, tuple((1, at) for at in range(many)))

        for many in (1, 2, 12, 23, 24):
            self.check_told(wide(many), many // 2, wide(25 - many))
            self.check_told(wide(many), many - 1, wide(25 - many))
            self.check_told(wide(many), 0, wide(25 - many))
            if many > 1:
                for place in (0, many // 2, many - 1):
                    self.check_unfit(wide(many), place, wide(26 - many))
        self.check_unfit(wide(24), 7, wide(24))

    def test_sizes_are_no_matter(self):
        self.check_told(ONE, 0, ONE)
        self.check_told((GREAT, 0, ((GREAT, 0), (1, 1))), 0, (GREAT, 0, ((GREAT, 0), (1, 1))))


class MergedAndJoinedTest(MergingCase):
    def test_what_is_joined_of_merged_ones(self):
        for plan, other in product((HALF, CHAIN, FOUR, BLEND, LESS, ADDED, BELOW, MEANS), repeat=2):
            for place in range(inputs_of(plan)):
                whole = joined(plan, place, other)
                others = (merged(whole), merged(joined(merged(plan), place, merged(other))))
                for row in some_rows(whole):
                    self.assertEqual([told(found, row) for found in others], [told(whole, row)] * 2)


class InterfaceTest(unittest.TestCase):
    def test_all_are_defined_in_their_own_file(self):
        for function in (merged, joined):
            self.assertEqual(function.__module__, "stagecuts.merging")


if __name__ == "__main__":
    unittest.main()
