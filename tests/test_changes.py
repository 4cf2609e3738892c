import unittest
from fractions import Fraction
from itertools import product

from strict import (
    ADDED,
    BLEND,
    CHAIN,
    FOUR,
    FULL,
    GREAT,
    HALF,
    LESS,
    NO_INTEGERS,
    PLANS,
    SMALL,
    WIDE,
    Dice,
    StrictCase,
    all_rows,
    divisors_of,
    inputs_in,
    numbers,
    row_of_stages,
    run,
    spread_by_stages,
    thrown_plan,
    told,
    tower,
    worth,
)

from stagecuts.changes import all_changes, change_row, greatest_change, least_change
from stagecuts.errors import Unfit
from stagecuts.plans import offsets_of, plan_error, with_offsets
from stagecuts.running import told_by
from stagecuts.shares import shares_of

HOLES = (2, 0, ((5, (3, 0, ((1, 0),))), (1, 1)))
# All sums at the outermost stage are apart by 4 and odd, if its offset grows by 1.
ALL_4096 = (2, 0, ((1, 11),) + tuple((4 << at, (2, 0, ((1, at),))) for at in range(11)))


def deep_plan(weight, divisors):
    """Return a plan of twelve stages: eight one within another by weight, four beside the second one."""
    plan = (divisors[0], 0, ((1, 0),))
    for at, divisor in enumerate(divisors[1:], 1):
        plan = (divisor, 0, ((weight, plan), (1, at)))
    return plan[:2] + (plan[2] + tuple((weight << 7 + at, (2, 0, ((1, 8 + at),))) for at in range(4)),)


def added(row, steps):
    return tuple(item + step for item, step in zip(row, steps, strict=True))


def by_all_rows(plan, offsets, steps):
    """Return the changes at rows by which all rests come."""
    other = with_offsets(plan, offsets)
    return tuple(sorted({told(other, added(row, steps)) - told(plan, row) for row in all_rows(plan)}))


def by_both_ends(thing, other, steps):
    """Return the set of the changes of thing, by the least and the greatest rest at each stage."""
    if isinstance(thing, int):
        return {steps[thing]}
    sums = {other[1] - thing[1]}
    for (weight, part), (_, other_part) in zip(thing[2], other[2]):
        sums = {total + weight * change for total in sums for change in by_both_ends(part, other_part, steps)}
    return {(total + rest) // thing[0] for total in sums for rest in (0, thing[0] - 1)}


def offsets_for_all(plan):
    """Return all offsets for plan."""
    return list(product(*map(range, divisors_of(plan))))


def some_offsets(plan):
    """Return the plan's own offsets, noughts, the greatest ones, and some between."""
    divisors = divisors_of(plan)
    found = [offsets_of(plan), (0,) * len(divisors), tuple(divisor - 1 for divisor in divisors)]
    return found + [tuple(number % divisor for number, divisor in zip(numbers(len(divisors), GREAT), divisors))]


def some_steps(plan):
    """Return steps of noughts, of one input alone, small ones and far ones, of both signs."""
    many = len(inputs_in(plan))
    found = [(0,) * many, (1,) * many, (-1,) * many, tuple(range(many)),
             tuple((-1) ** at * (at + 1) for at in range(many))]
    for at in range(min(many, 4)):
        found += [(0,) * at + (step,) + (0,) * (many - at - 1) for step in (1, -1, 2, 10 ** 60)]
    return found + [numbers(many, size) for size in (3, 1000, GREAT, 10 ** 60)]


class ChangesCase(StrictCase):
    def arguments(self, plan, offsets, steps):
        return {"plan": plan, "offsets": offsets, "steps": steps}

    def check(self, plan, offsets, steps, changes):
        """Check all changes, the ends, and a row for each."""
        arguments = self.arguments(plan, offsets, steps)
        self.assert_tells(all_changes, arguments, changes)
        self.assert_tells(least_change, arguments, changes[0])
        self.assert_tells(greatest_change, arguments, changes[-1])
        for change in changes:
            self.check_row(plan, offsets, steps, change)

    def check_row(self, plan, offsets, steps, value):
        row = self.told_alike(change_row, {**self.arguments(plan, offsets, steps), "value": value})
        self.assertEqual((type(row), [type(item) for item in row]), (tuple, [int] * len(inputs_in(plan))))
        other = with_offsets(plan, offsets)
        self.assertEqual(told(other, added(row, steps)) - told(plan, row), value)

    def check_none(self, plan, offsets, steps, *values):
        for value in values:
            self.assert_refuses(change_row, {**self.arguments(plan, offsets, steps), "value": value}, Unfit, {})

    def test_what_is_used_here_are_plans(self):
        self.assertEqual([plan_error(plan) for plan in (HOLES, ALL_4096)], [None, None])


class WorkedOutTest(ChangesCase):
    def test_one_input(self):
        for divisor, step, changes in ((1, 7, (7,)), (2, 0, (0,)), (2, 1, (0, 1)), (2, 2, (1,)), (2, -1, (-1, 0)),
                                       (3, -3, (-1,)),
                                       (3, -4, (-2, -1)), (3, 10 ** 60, (10 ** 60 // 3, 10 ** 60 // 3 + 1))):
            self.check((divisor, 0, ((1, 0),)), (0,), (step,), changes)
            turned = tuple(-change for change in reversed(changes))
            self.check((divisor, divisor - 1, ((-1, 0),)), (divisor - 1,), (step,), turned)

    def test_offsets_alone(self):
        for own, other, changes in ((0, 0, (0,)), (0, 1, (0, 1)), (0, 4, (0, 1)), (4, 0, (-1, 0)), (2, 3, (0, 1)),
                                    (3, 2, (-1, 0))):
            self.check((5, own, ((1, 0),)), (other,), (0,), changes)
            self.check((5, own, ((1, 0), (-7, 1))), (other,), (0, 0), changes)
            self.check((5, own, ((1, 0),)), (other,), (5,), tuple(change + 1 for change in changes))

    def test_holes(self):
        self.check(HOLES, (0, 0), (1, 0), (0, 2, 3))
        self.check(HOLES, (0, 1), (0, 0), (0, 2, 3))
        self.check(HOLES, (1, 0), (1, -1), (0, 2, 3))
        self.check(HOLES, (0, 0), (-1, 0), (-3, -2, 0))
        self.check(HOLES, (1, 1), (1, 0), (0, 1, 3))
        self.check(HOLES, (1, 2), (1, 0), (3,))

    def test_a_weight_below_0_turns_what_is_beneath(self):
        self.check((1, 0, ((-3, (2, 0, ((1, 0),))), (1, 1))), (0, 0), (1, 0), (-3, 0))
        self.check((1, 0, ((-3, (2, 0, ((1, 0),))), (1, 1))), (0, 1), (0, 2), (-1, 2))
        self.check((2, 0, ((-1, (2, 0, ((-1, 0),))),)), (0, 0), (1,), (0, 1))
        self.check((2, 0, ((-1, (2, 0, ((1, 0),))),)), (0, 0), (1,), (-1, 0))

    def test_blend(self):
        for steps, changes in (((0, 0, 0), (0,)), ((0, 1, 0), (0, 1)), ((2, 0, 0), (1, 2)), ((0, 0, 3), (-1, 0)),
                               ((0, 1, 1), (0,))):
            self.check(BLEND, (1, 0), steps, changes)
        for offsets, changes in (((3, 1), (0, 1)), ((0, 1), (-1, 0)), ((1, 1), (0, 1)), ((0, 0), (-1, 0))):
            self.check(BLEND, offsets, (0, 0, 0), changes)

    def test_divisors_1_have_one_change(self):
        self.check(ADDED, (0, 0), (1, 1, 1), (6,))
        self.check(ADDED, (0, 0), (-10 ** 400, 0, 7), (21 - 2 * 10 ** 400,))


class AllRowsTest(ChangesCase):
    def test_small_plans_by_all_offsets(self):
        for plan in SMALL + (HOLES,):
            many = len(inputs_in(plan))
            for offsets in offsets_for_all(plan):
                for steps in [(0,) * many, (1,) * many,
                              (-1,) * many] + [numbers(many, 4, begin) for begin in (1, 2, 3)]:
                    changes = by_all_rows(plan, offsets, steps)
                    found = (all_changes(plan, offsets, steps), least_change(plan, offsets, steps),
                             greatest_change(plan, offsets, steps))
                    self.assert_same(found, (changes, changes[0], changes[-1]))

    def test_small_plans_by_own_offsets_of_all_kinds(self):
        for plan in (HALF, CHAIN, BLEND, LESS, HOLES):
            for own, offsets in product(offsets_for_all(plan), repeat=2):
                first = with_offsets(plan, own)
                for steps in ((0,) * len(inputs_in(plan)), numbers(len(inputs_in(plan)), 3)):
                    self.assert_same(all_changes(first, offsets, steps), by_all_rows(first, offsets, steps))

    def test_small_plans(self):
        for plan in SMALL + (HOLES,):
            for offsets in some_offsets(plan):
                for steps in some_steps(plan):
                    self.check(plan, offsets, steps, by_all_rows(plan, offsets, steps))

    def test_rows_have_no_other_changes(self):
        for plan in PLANS:
            for offsets in some_offsets(plan):
                for steps in some_steps(plan)[::3]:
                    changes, other = all_changes(plan, offsets, steps), with_offsets(plan, offsets)
                    for size in (2, 10 ** 6, 10 ** 60):
                        row = numbers(len(inputs_in(plan)), size)
                        self.assertIn(told(other, added(row, steps)) - told(plan, row), changes)


class BoundsTest(ChangesCase):
    def check_some(self, plan, offsets, steps, every=1):
        """Check all changes by both end rests of each stage, and rows for some of them."""
        changes = tuple(sorted(by_both_ends(plan, with_offsets(plan, offsets), steps)))
        self.assert_same(all_changes(plan, offsets, steps), changes)
        self.assert_same((least_change(plan, offsets, steps), greatest_change(plan, offsets, steps)),
                         (changes[0], changes[-1]))
        for change in changes[::every] + changes[-1:]:
            self.check_row(plan, offsets, steps, change)

    def test_4096_changes(self):
        arguments = self.arguments(ALL_4096, (1,) + (0,) * 11, (1,) * 11 + (0,))
        self.assert_tells(all_changes, arguments, tuple(range(4096)))
        self.assert_tells(least_change, arguments, 0)
        self.assert_tells(greatest_change, arguments, 4095)
        for change in range(0, 4096, 273):
            self.check_row(*arguments.values(), change)
        self.check_none(*arguments.values(), -1, 4096)

    def test_far_steps_of_4096_changes(self):
        steps = tuple((-1) ** at * (10 ** 40 + 1) for at in range(11)) + (10 ** 60,)
        self.assertEqual(len(all_changes(ALL_4096, (1,) + (0,) * 11, steps)), 4096)
        self.check_some(ALL_4096, (1,) + (0,) * 11, steps, 500)

    def test_twelve_stages_eight_deep_by_great_weights(self):
        for offsets in some_offsets(FULL):
            for steps in some_steps(FULL)[::3]:
                self.check_some(FULL, offsets, steps, 1000)

    def test_4096_changes_of_stages_eight_deep(self):
        plan = deep_plan(4, (2, 2, 2, 2, 2, 2, 2, 2))
        self.assert_tells(all_changes, self.arguments(plan, (1,) * 12, (0,) * 12), tuple(range(4096)))
        for step in (1, -1):
            plan = deep_plan(-4 * step, (2, 3, 2, GREAT, 2, 5, GREAT - 1, 2))
            self.assertIsNone(plan_error(plan))
            for steps in ((step,) * 12, (0,) * 12, numbers(12, 10 ** 60), numbers(12, 10 ** 60, 2)):
                self.check_some(plan, (1,) * 12, steps, 100)
        plan = deep_plan(GREAT >> 11, (2,) * 8)
        self.assertIsNone(plan_error(plan))
        self.check_some(plan, (1,) * 12, (0,) * 12, 100)
        self.assertEqual(len(all_changes(plan, (1,) * 12, (0,) * 12)), 4096)

    def test_plans_of_all_kinds(self):
        for plan in PLANS:
            for offsets in some_offsets(plan):
                for steps in some_steps(plan)[::4]:
                    self.check_some(plan, offsets, steps, 200)

    def test_thrown_plans(self):
        for begin in range(60):
            dice = Dice(begin)
            plan = thrown_plan(dice, 1 + dice.below(9), 9, (1, 2, 3, 10, GREAT), (1, -1, 2, -5, 12, GREAT))
            for offsets in some_offsets(plan)[1:]:
                self.check_some(plan, offsets, numbers(len(inputs_in(plan)), dice.pick((2, 20, GREAT)), begin + 1), 60)

    def test_few_changes_of_many_stages(self):
        self.check_some(row_of_stages(12), (1,) * 12, (1,) * 11)
        self.check_some(tower(8), (1,) * 8, (0,))
        self.assertEqual(all_changes(tower(8), (1,) * 8, (0,)), (0, 1))


class ChangeRowTest(ChangesCase):
    def test_what_is_none_of_the_changes(self):
        for plan in SMALL + (HOLES,):
            for offsets in some_offsets(plan)[:3]:
                for steps in some_steps(plan)[::4]:
                    changes = by_all_rows(plan, offsets, steps)
                    for value in range(changes[0] - 3, changes[-1] + 4):
                        if value in changes:
                            self.check_row(plan, offsets, steps, value)
                        else:
                            self.assertRaises(Unfit, change_row, plan, offsets, steps, value)

    def test_in_a_hole_and_at_its_sides(self):
        self.check_none(HOLES, (0, 0), (1, 0), 1, -1, 4, 10 ** 60, -10 ** 399)
        self.check_none(HOLES, (0, 0), (0, 0), 1, -1, 10 ** 399)
        self.check_none(HOLES, (0, 0), (2 * 10 ** 60, 0), 0, 1, 10 ** 60)

    def test_any_values(self):
        for plan, steps in ((BLEND, (0, 1, 0)), (HALF, (1, 0)), (FULL, (1,) * 24), (ADDED, (0, 0, 0))):
            self.check_none(plan, offsets_of(plan), steps, *NO_INTEGERS)

    def test_bools_are_no_changes(self):
        self.assertEqual(all_changes(BLEND, (1, 0), (0, 1, 0)), (0, 1))
        self.check_none(BLEND, (1, 0), (0, 1, 0), True, False)

    def test_by_turns(self):
        for _ in range(2):
            for plan in (BLEND, LESS, with_offsets(BLEND, (0, 1)), FOUR, HOLES, WIDE):
                offsets, steps = some_offsets(plan)[2], some_steps(plan)[3]
                changes = tuple(sorted(by_both_ends(plan, with_offsets(plan, offsets), steps)))
                self.check(plan, offsets, steps, changes)
                self.check_none(plan, offsets, steps, changes[0] - 1, True)


class WhatHoldsTest(ChangesCase):
    def test_nothing_falls_where_nothing_is_less(self):
        for plan in (HALF, CHAIN, FOUR, HOLES, tower(8), row_of_stages(12), SMALL[9], SMALL[10]):
            for own in some_offsets(plan)[1:2]:
                first = with_offsets(plan, own)
                for offsets in some_offsets(plan):
                    for steps in some_steps(plan):
                        if min(steps) >= 0:
                            self.assertGreaterEqual(least_change(first, offsets, steps), 0)

    def test_never_more_and_never_another(self):
        for plan in SMALL[:6] + (HOLES,):
            for own, offsets in product(offsets_for_all(plan), repeat=2):
                first, second, noughts = with_offsets(plan, own), with_offsets(plan,
                                                                               offsets), (0,) * len(inputs_in(plan))
                results = [(told(first, row), told(second, row)) for row in all_rows(plan)]
                never_more = all(new <= old for old, new in results)
                self.assertEqual(greatest_change(first, offsets, noughts) <= 0, never_more)
                self.assertEqual(all_changes(first, offsets, noughts) == (0,), all(new == old for old, new in results))

    def test_never_falls_and_stands_still(self):
        found = set()
        for plan in SMALL + (HOLES,):
            for steps in some_steps(plan) + [numbers(len(inputs_in(plan)), 3, begin) for begin in range(1, 20)]:
                results = [(told(plan, row), told(plan, added(row, steps))) for row in all_rows(plan)]
                falls, still = any(new < old for old, new in results), all(new == old for old, new in results)
                self.assertEqual(least_change(plan, offsets_of(plan), steps) >= 0, not falls)
                self.assertEqual(all_changes(plan, offsets_of(plan), steps) == (0,), still)
                found.add((falls, still))
        self.assertEqual(found, {(True, False), (False, False), (False, True)})

    def test_along_steps_that_cancel_each_other(self):
        self.assertEqual(all_changes(HALF, (0,), (1, -1)), (0,))
        self.assertEqual(all_changes(BLEND, (1, 0), (0, 7, 7)), (0,))
        self.assertEqual(all_changes(BLEND, (1, 0), (1, -6, 0)), (0,))
        self.assertEqual(all_changes(FOUR, (1, 0, 0), (1, 0, -1, 0)), (-1, 0, 1))

    def test_turned_about_all_have_the_other_sign(self):
        for plan in PLANS + SMALL + (HOLES, ALL_4096):
            for offsets in some_offsets(plan):
                for steps in some_steps(plan)[::3]:
                    back = all_changes(with_offsets(plan, offsets), offsets_of(plan), tuple(-step for step in steps))
                    self.assert_same(back, tuple(-change for change in reversed(all_changes(plan, offsets, steps))))

    def test_one_behind_another(self):
        for plan in SMALL + (HOLES,):
            for first, second in product(some_offsets(plan), repeat=2):
                for begin in (1, 2):
                    steps, more = numbers(len(inputs_in(plan)), 3, begin), numbers(len(inputs_in(plan)), 5, begin + 2)
                    ahead = all_changes(plan, first, steps)
                    behind = all_changes(with_offsets(plan, first), second, more)
                    both = all_changes(plan, second, added(steps, more))
                    self.assertTrue({change for change in both} <= {one + two for one in ahead for two in behind})
                    for change in both:
                        row = change_row(plan, second, added(steps, more), change)
                        middle = told(with_offsets(plan, first), added(row, steps)) - told(plan, row)
                        self.assertIn(middle, ahead)
                        self.assertIn(change - middle, behind)

    def test_how_far_from_the_exact_change(self):
        for plan in PLANS + SMALL + (HOLES,):
            apart = spread_by_stages(plan)
            for offsets in some_offsets(plan):
                for steps in some_steps(plan)[::2]:
                    exact = run(plan, steps)[2]
                    pairs = zip(shares_of(plan), offsets, offsets_of(plan), divisors_of(plan), strict=True)
                    exact += sum(worth(share) * Fraction(new - own, divisor) for share, new, own, divisor in pairs)
                    self.assertLessEqual(abs(least_change(plan, offsets, steps) - exact), apart)
                    self.assertLessEqual(abs(greatest_change(plan, offsets, steps) - exact), apart)

    def test_steps_by_the_divisors_change_all_rows_alike(self):
        for plan in PLANS:
            many = len(inputs_in(plan))
            product_of_all = 1
            for divisor in divisors_of(plan):
                product_of_all *= divisor
            steps = (product_of_all,) + (0,) * (many - 1)
            self.assertEqual(all_changes(plan, offsets_of(plan), steps),
                             (told_by(plan, steps) - told_by(plan, (0,) * many),))


class InterfaceTest(unittest.TestCase):
    def test_all_are_defined_in_their_own_file(self):
        for function in (least_change, greatest_change, all_changes, change_row):
            self.assertEqual(function.__module__, "stagecuts.changes")


if __name__ == "__main__":
    unittest.main()
