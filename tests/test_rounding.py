import unittest
from fractions import Fraction
from itertools import product
from math import floor

from strict import (
    BLEND,
    CHAIN,
    FOUR,
    FULL,
    GREAT,
    HALF,
    LESS,
    NO_INTEGERS,
    ONE,
    PLANS,
    SMALL,
    WIDE,
    Dice,
    StrictCase,
    all_rows,
    divisors_of,
    inputs_in,
    numbers,
    pair_of,
    row_of_stages,
    run,
    spoilt,
    spread_by_stages,
    thrown_plan,
    tower,
    worth,
)

from stagecuts.plans import inputs_of, plan_error, with_offsets
from stagecuts.rounding import rounding_holds, rounding_paper, spread
from stagecuts.slips import greatest_slip, least_slip

SPLIT = (2, 0, ((2, (2, 0, ((1, 0),))), (1, 1)))
FAR_APART = (1, 0, ((3, (4, 0, ((1, 0),))), (1, 1)))
# One stage within another, by 1 and by -1, with great divisors: the spread is just below 1.
JUST_BELOW = (
    (GREAT, 7, ((1, (GREAT, 5, ((-1, 0), (GREAT, 1)))), (GREAT, 2))), (GREAT, 0, ((-1, (GREAT - 1, 1, ((1, 0),))),)),
    (1, 0, ((-1, (GREAT, GREAT - 1, ((1, 0),))), (GREAT, (1, 0, ((1, 1),))))), ONE, tower(8),
    (2, 1, ((-1, (GREAT, 9, ((GREAT, 0), (-1, (3, 2, ((-1, 1), (7, 2)))))),),)),
    (GREAT, 3, ((GREAT, (1, 0, ((1, 0),))), (-1, 1))),
)
JUST_1 = (
    FOUR, SPLIT, (2, 0, ((1, 0), (1, (1, 0, ((-2, (2, 1, ((1, 1),))), (3, 2)))))),
    (2, 1, ((-1, (2, 0, ((1, 0),))), (-1, (2, 0, ((1, 1),))))), (1, 0, ((2, (2, 1, ((1, 0),))), (1, 1))),
)
ABOVE = (
    FAR_APART, (3, 2, ((1, (3, 0, ((1, 0),))), (-2, (2, 1, ((1, 1),))))),
    (GREAT, 0, ((GREAT, (GREAT, 0, ((1, 0),))), (1, 1))), row_of_stages(12), FULL, WIDE,
    (GREAT, 0, ((2, (2, 0, ((1, 0),))), (1, (2, 0, ((1, 1),))))),
)


def errors_of(plan):
    """Return the errors at rows by which all rests come."""
    found = set()
    for row in all_rows(plan):
        told, _, exact = run(plan, row)
        found.add(told - exact)
    return found


def fits(plan, fraction):
    """Tell whether plan is the rounding that adds fraction, at rows by which all rests come."""
    for row in all_rows(plan):
        told, _, exact = run(plan, row)
        if told != floor(exact + fraction):
            return False
    return True


def is_turned(plan, first, second):
    (told, _, exact), (other_told, _, other_exact) = run(plan, first), run(plan, second)
    return exact <= other_exact and told > other_told


def by_all_offsets(plans):
    """Return the plans with all offsets that they can have."""
    return [with_offsets(plan, offsets) for plan in plans for offsets in product(*map(range, divisors_of(plan)))]


class RoundingCase(StrictCase):
    def check_spread(self, plan, wanted):
        self.assert_tells(spread, {"plan": plan}, wanted)

    def check_holds(self, plan, value, wanted):
        self.assert_tells(rounding_holds, {"plan": plan, "value": value}, wanted)

    def check_paper(self, plan):
        """Check the paper of plan, by both ends of the errors or by its rows; return it."""
        paper = self.told_alike(rounding_paper, {"plan": plan})
        self.assertEqual((type(paper), len(paper)), (tuple, 3))
        if spread_by_stages(plan) < 1:
            low, high = worth(greatest_slip(plan)), worth(least_slip(plan)) + 1
            self.assert_same(paper, ("one", pair_of(low), pair_of(high)))
            self.assertLess(low, high)
        else:
            self.assertEqual(paper[0], "two")
            for row in paper[1:]:
                self.assertEqual([type(item) for item in row], [int] * len(inputs_in(plan)))
                self.assertIs(type(row), tuple)
            self.assertTrue(is_turned(plan, paper[1], paper[2]))
        self.check_holds(plan, paper, True)
        return paper

    def test_what_is_used_here_are_plans(self):
        for plan in JUST_BELOW + JUST_1 + ABOVE:
            self.assertIsNone(plan_error(plan))


class SpreadTest(RoundingCase):
    def test_worked_out(self):
        for divisor in (1, 2, 3, 10, 4096, GREAT):
            for weight in (1, -1):
                for offset in (0, divisor - 1):
                    self.check_spread((divisor, offset, ((weight, 0),)), pair_of(Fraction(divisor - 1, divisor)))
        self.check_spread(tower(8), (255, 256))
        self.check_spread(row_of_stages(12), (13, 4))
        self.check_spread(SPLIT, (1, 1))
        self.check_spread(FAR_APART, (9, 4))
        self.check_spread(BLEND, (7, 8))
        self.check_spread(LESS, (5, 6))

    def test_divisors_1_alone(self):
        all_1 = (1, 0, ((2, 0), (-1, (1, 0, ((GREAT, 1), (1 - GREAT, 2))))))
        for plan in ((1, 0, ((1, 0),)), (1, 0, ((1, 0), (-3, 1))), all_1):
            self.check_spread(plan, (0, 1))

    def test_great_numbers(self):
        self.check_spread(ABOVE[2], pair_of(1 - Fraction(1, GREAT) + 1 - Fraction(1, GREAT)))
        self.check_spread(JUST_BELOW[0], pair_of(1 - Fraction(1, GREAT ** 2)))
        self.check_spread((1, 0, ((-GREAT, (GREAT - 1, 5, ((1, 0),))), (1, 1))),
                          pair_of(Fraction(GREAT * (GREAT - 2), GREAT - 1)))

    def test_by_the_stages(self):
        for plan in PLANS + SMALL + JUST_BELOW + JUST_1 + ABOVE:
            self.check_spread(plan, pair_of(spread_by_stages(plan)))
        for begin in range(60):
            dice = Dice(begin)
            plan = thrown_plan(dice, 1 + dice.below(12), 24, (1, 2, 3, 60, GREAT), (1, -1, 2, -30, GREAT))
            self.assert_same(spread(plan), pair_of(spread_by_stages(plan)))

    def test_just_1(self):
        self.assertEqual([spread_by_stages(plan) < 1 for plan in JUST_BELOW], [True] * len(JUST_BELOW))
        for plan in JUST_1:
            self.check_spread(plan, (1, 1))

    def test_how_far_both_end_errors_are_apart(self):
        for plan in PLANS + SMALL + JUST_BELOW + JUST_1 + ABOVE:
            apart = worth(greatest_slip(plan)) - worth(least_slip(plan))
            self.assertEqual(worth(spread(plan)), apart)
        for plan in SMALL:
            errors = errors_of(plan)
            self.assertEqual(worth(spread(plan)), max(errors) - min(errors))

    def test_other_offsets_change_nothing(self):
        for plan in SMALL:
            self.assertEqual({spread(other) for other in by_all_offsets((plan,))}, {spread(plan)})
        for plan in PLANS + ABOVE:
            greatest = tuple(divisor - 1 for divisor in divisors_of(plan))
            self.assert_same(spread(with_offsets(plan, greatest)), spread(plan))

    def test_other_signs_of_weights_change_nothing(self):
        def turned(thing, dice):
            if isinstance(thing, int):
                return thing
            return thing[:2] + (tuple((weight * dice.pick((1, -1)), turned(part, dice)) for weight, part in thing[2]),)

        for plan in PLANS + SMALL + JUST_BELOW + JUST_1 + ABOVE:
            for begin in range(4):
                self.assert_same(spread(turned(plan, Dice(begin))), spread(plan))

    def test_a_stage_by_1_around_changes_nothing(self):
        for plan in SMALL + JUST_BELOW[:4] + JUST_1 + ABOVE[:3]:
            for weight in (1, -1):
                around = (1, 0, ((weight, plan),))
                self.assertIsNone(plan_error(around))
                self.check_spread(around, spread(plan))


class PaperTest(RoundingCase):
    def test_worked_out(self):
        third = (4, 3, ((1, 0), (-1, (2, 1, ((1, 1),)))))
        table = ((HALF, ((0, 1), (1, 2))), (CHAIN, ((1, 2), (3, 4))), (third, ((3, 4), (7, 8))),
                 (with_offsets(HALF, (1,)), ((1, 2), (1, 1))), ((1, 0, ((1, 0),)), ((0, 1), (1, 1))),
                 ((6, 5, ((-1, 0),)), ((5, 6), (1, 1))), (BLEND, ((1, 4), (3, 8))),
                 ((GREAT, 7, ((1, 0),)), ((7, GREAT), pair_of(Fraction(8, GREAT)))))
        for plan, ends in table:
            self.assert_tells(rounding_paper, {"plan": plan}, ("one",) + ends)
            self.check_paper(plan)

    def test_ends_are_from_0_to_1(self):
        for plan in by_all_offsets((HALF, CHAIN, BLEND, LESS, (1, 0, ((1, 0),)))) + list(JUST_BELOW):
            _, low, high = rounding_paper(plan)
            self.assertTrue(0 <= worth(low) < worth(high) <= 1)

    def test_small_plans_by_all_offsets(self):
        for plan in by_all_offsets(SMALL):
            errors = errors_of(plan)
            paper = rounding_paper(plan)
            if max(errors) < min(errors) + 1:
                self.assert_same(paper, ("one", pair_of(max(errors)), pair_of(min(errors) + 1)))
            else:
                self.assertEqual(paper[0], "two")
                self.assertTrue(is_turned(plan, paper[1], paper[2]))
            self.assertIs(rounding_holds(plan, paper), True)

    def test_the_fractions_that_will_do(self):
        for plan in SMALL:
            paper = rounding_paper(plan)
            for above in range(-30, 61):
                fraction = Fraction(above, 24)
                fit = paper[0] == "one" and worth(paper[1]) <= fraction < worth(paper[2])
                self.assertEqual(fits(plan, fraction), fit)

    def test_below_1_of_1_and_above(self):
        for plans, word in ((JUST_BELOW, "one"), (JUST_1, "two"), (ABOVE, "two")):
            for plan in plans:
                self.assertEqual(self.check_paper(plan)[0], word)
                for offsets in (tuple(divisor - 1 for divisor in divisors_of(plan)), (0,) * len(divisors_of(plan))):
                    self.assertEqual(self.check_paper(with_offsets(plan, offsets))[0], word)

    def test_plans_of_all_kinds(self):
        for plan in PLANS:
            self.check_paper(plan)
        for begin in range(60):
            dice = Dice(begin)
            plan = thrown_plan(dice, 1 + dice.below(12), 12, (1, 1, 1, 2, 3, GREAT), (1, 1, -1, -1, 2, GREAT))
            self.check_paper(plan)

    def test_by_turns(self):
        for _ in range(2):
            for plan in (HALF, FOUR, CHAIN, with_offsets(CHAIN, (0, 1)), WIDE, FULL, BLEND):
                self.check_paper(plan)


class HoldsTest(RoundingCase):
    def test_papers_of_other_plans(self):
        plans = by_all_offsets(SMALL[:6])
        for plan in plans:
            errors = errors_of(plan)
            one = max(errors) < min(errors) + 1
            for other in plans:
                paper = rounding_paper(other)
                if paper[0] == "one":
                    wanted = one and paper == ("one", pair_of(max(errors)), pair_of(min(errors) + 1))
                elif inputs_of(plan) != inputs_of(other):
                    wanted = False
                else:
                    wanted = is_turned(plan, paper[1], paper[2])
                self.assertIs(rounding_holds(plan, paper), wanted)

    def test_other_fractions(self):
        grid = sorted({pair_of(Fraction(above, below)) for below in (1, 2, 4, 8)
                       for above in range(-below, 2 * below + 1)})
        for plan in (HALF, CHAIN, BLEND, FOUR, SPLIT, FAR_APART, (1, 0, ((1, 0),)), (1, 0, ((5, 0), (-4, 1)))):
            paper = rounding_paper(plan)
            for low, high in product(grid, repeat=2):
                self.assertIs(rounding_holds(plan, ("one", low, high)), paper == ("one", low, high))

    def test_both_ends_of_what_does_not_round(self):
        for plan in JUST_1 + ABOVE:
            low, high = greatest_slip(plan), pair_of(worth(least_slip(plan)) + 1)
            for ends in ((low, high), (high, low), (low, low), (high, high)):
                self.check_holds(plan, ("one",) + ends, False)

    def test_ends_exchanged_or_equal_or_a_little_off(self):
        for plan in (HALF, CHAIN, BLEND, LESS) + JUST_BELOW:
            low, high = rounding_paper(plan)[1:]
            self.check_holds(plan, ("one", low, high), True)
            for ends in ((high, low), (low, low), (high, high)):
                self.check_holds(plan, ("one",) + ends, False)
            for off in (1, -1, Fraction(1, 7), Fraction(1, GREAT ** 3), -Fraction(1, GREAT ** 3)):
                self.check_holds(plan, ("one", pair_of(worth(low) + off), high), False)
                self.check_holds(plan, ("one", low, pair_of(worth(high) + off)), False)
                self.check_holds(plan, ("one", pair_of(worth(low) + off), pair_of(worth(high) + off)), False)

    def test_terms_that_are_not_least(self):
        for plan in (HALF, CHAIN, BLEND, (1, 0, ((1, 0),)), with_offsets(HALF, (1,))):
            low, high = rounding_paper(plan)[1:]
            for times in (2, 3, -1, -2, GREAT, 0):
                self.check_holds(plan, ("one", (low[0] * times, low[1] * times), high), False)
                self.check_holds(plan, ("one", low, (high[0] * times, high[1] * times)), False)

    def test_bools_for_integers(self):
        plan = (1, 0, ((1, 0),))
        self.check_holds(plan, ("one", (0, 1), (1, 1)), True)
        for value in (("one", (False, 1), (1, 1)), ("one", (0, True), (1, 1)), ("one", (0, 1), (True, 1)),
                      ("one", (0, 1), (1, True))):
            self.check_holds(plan, value, False)
        self.check_holds(FOUR, ("two", (1, 1, 0, 0), (1, 0, 1, 0)), True)
        for at in range(4):
            for rows in (((1, 1, 0, 0), (1, 0, 1, 0)), ((1, 0, 1, 0), (1, 1, 0, 0))):
                changed = tuple(row[:at] + (bool(row[at]),) + row[at + 1:] for row in rows)
                self.check_holds(FOUR, ("two", changed[0], rows[1]), False)
                self.check_holds(FOUR, ("two", rows[0], changed[1]), False)

    def test_spoilt_papers(self):
        for plan in (HALF, CHAIN, BLEND, (1, 0, ((1, 0),)), FOUR, SPLIT, FAR_APART, (2, 0, SPLIT[2])):
            paper = rounding_paper(plan)
            self.check_holds(plan, paper, True)
            for value in spoilt(paper):
                self.check_holds(plan, value, False)

    def test_other_words(self):
        for plan in (HALF, FOUR):
            _, first, second = rounding_paper(plan)
            self.check_holds(HALF, ("two", first, second), False)
            self.check_holds(FOUR, ("one", first, second), False)
            for word in ("", "One", "TWO", "one two", "three", "paper", 1, 2, True, None, ("one",), ["two"],
                         {"one": 1}):
                self.check_holds(plan, (word, first, second), False)

    def test_all_small_rows(self):
        for plan in (FAR_APART, SPLIT, HALF, (2, 1, ((-1, (2, 0, ((1, 0),))), (-1, (2, 0, ((1, 1),)))))):
            rows = list(product(range(-4, 5), repeat=2))
            results = {row: run(plan, row) for row in rows}
            for first, second in product(rows, repeat=2):
                (told, _, exact), (other_told, _, other_exact) = results[first], results[second]
                wanted = exact <= other_exact and told > other_told
                self.assertIs(rounding_holds(plan, ("two", first, second)), wanted)

    def test_rows_with_the_same_exact_value_and_one_a_little_off(self):
        self.check_holds(FOUR, ("two", (1, 1, 0, 0), (1, 0, 1, 0)), True)
        self.check_holds(FOUR, ("two", (1, 1, 0, 0), (1, 0, 1, 1)), False)
        self.check_holds(FOUR, ("two", (1, 1, 0, 1), (1, 0, 1, 0)), False)
        self.check_holds(FOUR, ("two", (1, 1, 0, 0), (1, 1, 0, 0)), False)
        self.check_holds(FOUR, ("two", (1, 1, 0, -1), (1, 0, 1, 0)), False)

    def test_great_rows(self):
        far = 4 * (10 ** 399 // 7)
        self.check_holds(FOUR, ("two", (far + 1, far + 1, far, far), (far + 1, far, far + 1, far)), True)
        self.check_holds(FOUR, ("two", (far + 1, far, far + 1, far), (far + 1, far + 1, far, far)), False)
        self.check_holds(FOUR, ("two", (1 - far, 1, far, 0), (1, -far, 1, far)), True)

    def test_none_of_one_rounding_is_turned(self):
        for plan in JUST_BELOW + (HALF, CHAIN, BLEND, LESS):
            rows = [numbers(inputs_of(plan), size, begin) for size in (1, 5, GREAT) for begin in (1, 2, 3)]
            for first, second in product(rows, repeat=2):
                self.assertIs(rounding_holds(plan, ("two", first, second)), False)

    def test_any_values(self):
        for plan in (HALF, FOUR, FULL):
            for value in NO_INTEGERS + (0, 1, -1, 10 ** 399, plan, ("one", "two", "three")):
                self.check_holds(plan, value, False)
                self.check_holds(plan, ("one", value, (1, 2)), False)
                self.check_holds(plan, ("one", (0, 1), value), False)
                self.check_holds(plan, ("two", value, (0,) * inputs_of(plan)), False)
                self.check_holds(plan, ("two", (0,) * inputs_of(plan), value), False)
                self.check_holds(plan, (value, (0, 1), (1, 3)), False)
                self.check_holds(plan, ("one", (value, 1), (value, 2)), False)


class WhatHoldsTest(RoundingCase):
    def means(self, dice, many):
        """Return a plan of means of two, and how many of them have two stages for their parts."""
        things, twice = list(range(many)), 0
        while len(things) > 1:
            first, second = things.pop(dice.below(len(things))), things.pop(dice.below(len(things)))
            twice += isinstance(first, tuple) and isinstance(second, tuple)
            things.append((2, dice.below(2), ((1, first), (1, second))))
        return things[0], twice

    def test_means_of_two(self):
        seen = set()
        for begin in range(200):
            dice = Dice(begin)
            plan, twice = self.means(dice, 2 + dice.below(4))
            self.assertIsNone(plan_error(plan))
            self.assertEqual(worth(spread(plan)) < 1, twice == 0)
            self.assertEqual(rounding_paper(plan)[0], "two" if twice else "one")
            seen.add(twice)
        self.assertEqual(seen, {0, 1})
        self.assertEqual(rounding_paper(tower(8))[0], "one")

    def test_a_weight_of_2_or_more_in_front_of_a_stage_that_divides(self):
        for weight in (2, -2, 3, GREAT, -GREAT):
            for outer in (2, 3, GREAT):
                for inner in (2, 5, GREAT):
                    plan = (outer, 1, ((weight, (inner, 1, ((-1, 0),))), (1 if weight % 2 == 0 else -2, 1)))
                    self.assertEqual(self.check_paper(plan)[0], "two")
                    plan = (2, 1, ((1, plan), (5, 2)))
                    self.assertEqual(self.check_paper(plan)[0], "two")
            plan = (5, 1, ((weight, (1, 0, ((-1, 0),))), (1 if weight % 2 == 0 else -2, 1)))
            self.assertEqual(self.check_paper(plan)[0], "one")

    def test_by_all_offsets_one_paper_begins_where_another_one_ends(self):
        for plan in (HALF, CHAIN, BLEND, LESS, tower(8)):
            ends = sorted(tuple(map(worth, rounding_paper(other)[1:])) for other in by_all_offsets((plan,)))
            self.assertEqual((ends[0][0], ends[-1][1]), (0, 1))
            self.assertEqual([high for _, high in ends[:-1]], [low for low, _ in ends[1:]])


class InterfaceTest(unittest.TestCase):
    def test_all_are_defined_in_their_own_file(self):
        for function in (spread, rounding_paper, rounding_holds):
            self.assertEqual(function.__module__, "stagecuts.rounding")


if __name__ == "__main__":
    unittest.main()
