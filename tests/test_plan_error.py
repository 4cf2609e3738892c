import unittest

from strict import CHAIN, FOUR, GREAT, HALF, StrictCase, row_of_stages, tower

from stagecuts.plans import plan_error

# Values that are no integer; as a thing none of them is a stage either.
NO_INTEGERS = (None, True, False, "1", "", (), (1,), [], [1], {}, {1: 1}, (1, 1))
FINE = (2, 0, ((1, 0),))


def within(stage, depth):
    """Return stage at the way (1,) * depth, with as many inputs beside it."""
    for at in range(depth):
        stage = (2, 0, ((1, at + 1), (1, stage)))
    return stage


class PlanErrorCase(StrictCase):
    def check(self, value, wanted):
        self.assert_tells(plan_error, {"value": value}, wanted)

    def check_stage(self, stage, word):
        """Check word for stage outermost, and at ways further within."""
        for depth in (0, 1, 2, 7):
            wanted = None if word is None else (word, (1,) * depth)
            self.check(within(stage, depth), wanted)


class PlansTest(PlanErrorCase):
    def test_plans_are_told(self):
        for plan in (HALF, CHAIN, FOUR, FINE, within(FINE, 3)):
            self.check(plan, None)

    def test_an_input_alone_is_no_plan(self):
        for value in (0, 1, 23, 24, -1):
            self.check(value, ("form", ()))


class FormTest(PlanErrorCase):
    def test_values_of_all_kinds(self):
        others = ("(2 0: 1*0)", {"divisor": 2}, [2, 0, ((1, 0),)], [FINE], (FINE,), 24, -1)
        for value in NO_INTEGERS + others + (10 ** 399,):
            self.check_stage(value, "form")

    def test_no_triple(self):
        for value in ((), (2,), (2, 0), (2, 0, ((1, 0),), 0), (((1, 0),), 0, 2)):
            self.check_stage(value, "form")

    def test_parts_are_no_tuple(self):
        for parts in (None, True, 0, 2, "ab", [], [(1, 0)], {}, {1: 0}, {(1, 0): (1, 0)}):
            self.check_stage((2, 0, parts), "form")

    def test_parts_are_no_pairs(self):
        for part in (None, True, 0, "ab", [1, 0], (), (1,), (1, 0, 0), {1: 0, 2: 0}):
            self.check_stage((2, 0, (part,)), "form")
            self.check_stage((2, 0, ((1, 0), part)), "form")
            self.check_stage((2, 0, (part, (1, 0))), "form")

    def test_how_many_parts(self):
        for many in (0, 25, 26, 1000):
            parts = tuple((1, at) for at in range(many))
            self.check((2, 0, parts), ("form", ()))
            self.check(within((2, 0, parts), 7), ("form", (1,) * 7))
        for many in (1, 2, 23, 24):
            self.check((2, 0, tuple((1, at) for at in range(many))), None)

    def test_things_that_are_neither_inputs_nor_stages(self):
        for thing in NO_INTEGERS + (-1, 24, 25, GREAT, -GREAT, [2, 0, ((1, 0),)]):
            self.check((2, 0, ((1, thing),)), ("form", (0,)))
            self.check((2, 0, ((1, 0), (1, (2, 0, ((1, 1), (1, thing)))))), ("form", (1, 1)))

    def test_a_thing_beneath_the_last_stage_that_may_be_there(self):
        for thing in NO_INTEGERS + (-1, 24):
            self.check(tower(8, (2, 0, ((1, thing),))), ("form", (0,) * 8))


class DeepTest(PlanErrorCase):
    def test_eight_stages_one_within_another(self):
        self.check(tower(8), None)
        self.check(within(FINE, 7), None)

    def test_nine_stages_one_within_another(self):
        self.check(tower(9), ("deep", (0,) * 8))
        self.check(within(FINE, 8), ("deep", (1,) * 8))

    def test_as_deep_as_values_may_be(self):
        for many in (10, 12, 13, 14):
            self.check(tower(many), ("deep", (0,) * 8))

    def test_other_faults_of_a_deep_stage_are_not_told(self):
        parts = ((1, 0),)
        for stage in ((0, 0, parts), (2, 2, parts), (2, 0, ((2, 0),)), (None, None, ((None, None),))):
            self.check(tower(9, stage), ("deep", (0,) * 8))

    def test_the_form_of_a_deep_stage_is_told_first(self):
        for stage in ((2, 0, ()), (2, 0, [(1, 0)]), (2, 0, ((1, 0), 2)), (2, 0), [2, 0, ((1, 0),)]):
            self.check(tower(9, stage), ("form", (0,) * 8))

    def test_a_fault_above_a_deep_stage_is_told_first(self):
        self.check(tower(2, (2, 3, ((1, tower(8)),))), ("offset", (0,)))

    def test_a_deep_stage_ahead_of_other_faults(self):
        self.check((2, 0, ((1, tower(8)), (1, None))), ("deep", (0,) * 8))
        self.check((2, 0, ((1, None), (1, tower(8)))), ("form", (0,)))


class DivisorTest(PlanErrorCase):
    def test_divisors_that_may_be(self):
        for divisor in (1, 2, 3, GREAT - 1, GREAT):
            self.check_stage((divisor, 0, ((1, 0),)), None)

    def test_divisors_that_may_not_be(self):
        for divisor in (0, -1, -2, -GREAT, GREAT + 1, 10 ** 399) + NO_INTEGERS:
            self.check_stage((divisor, 0, ((1, 0),)), "divisor")


class OffsetTest(PlanErrorCase):
    def test_offsets_that_may_be(self):
        for divisor in (1, 2, 3, 100, GREAT):
            for offset in {0, divisor // 2, divisor - 1}:
                self.check_stage((divisor, offset, ((1, 0),)), None)

    def test_offsets_that_may_not_be(self):
        for divisor in (1, 2, 3, 100, GREAT):
            for offset in (-1, divisor, divisor + 1, -divisor) + NO_INTEGERS:
                self.check_stage((divisor, offset, ((1, 0),)), "offset")


class WeightsTest(PlanErrorCase):
    def check_weights(self, weights, word):
        stage = (2, 0, tuple((weight, at) for at, weight in enumerate(weights)))
        for many in (1, 2, 8):
            wanted = None if word is None else (word, (0,) * (many - 1))
            self.check(tower(many, stage), wanted)

    def test_weights_that_may_be(self):
        for weights in ((1,), (-1,), (1, 1), (-1, -1), (2, 3), (-2, 3), (6, 10, 15), (4, 6, 9)):
            self.check_weights(weights, None)

    def test_the_greatest_weights(self):
        for weights in ((GREAT, 1), (-GREAT, 1), (GREAT, -GREAT, -1), (GREAT, GREAT - 1)):
            self.check_weights(weights, None)

    def test_one_more_than_the_greatest(self):
        for weights in ((GREAT + 1, 1), (1, GREAT + 1), (-GREAT - 1, 1), (1, -GREAT - 1), (1, 10 ** 399)):
            self.check_weights(weights, "weights")

    def test_noughts(self):
        for weights in ((0,), (0, 1), (1, 0), (0, 0), (1, 0, 1)):
            self.check_weights(weights, "weights")

    def test_common_divisors(self):
        for weights in ((2,), (-2,), (GREAT,), (-GREAT,), (2, 4), (-2, 4), (-2, -2), (6, 9, 15)):
            self.check_weights(weights, "weights")

    def test_no_integers(self):
        for weight in NO_INTEGERS:
            self.check_weights((weight,), "weights")
            self.check_weights((1, weight), "weights")
            self.check_weights((weight, 1), "weights")


class ManyTest(PlanErrorCase):
    def test_twelve_stages(self):
        self.check(row_of_stages(12), None)
        self.check((2, 0, ((1, tower(7)), (1, tower(4, (2, 0, ((1, 1),)))))), None)

    def test_thirteen_stages(self):
        self.check(row_of_stages(13), "many")
        self.check((2, 0, ((1, tower(7)), (1, tower(5, (2, 0, ((1, 1),)))))), "many")

    def test_many_is_told_ahead_of_inputs(self):
        parts = tuple((1, (2, 0, ((1, 0),))) for _ in range(12))
        self.check((2, 0, parts), "many")
        self.check((2, 0, parts[1:]), "inputs")

    def test_many_is_told_behind_a_wrong_thing(self):
        outer = row_of_stages(14)
        for thing, word in (((2, 2, ((1, 13),)), "offset"), (24, "form"), ((0, 0, ((1, 13),)), "divisor")):
            self.check(outer[:2] + (outer[2] + ((1, thing),),), (word, (13,)))

    def test_many_more_stages(self):
        full = (2, 0, tuple((1, (2, 0, ((1, 0),))) for _ in range(24)))
        self.check((2, 0, ((1, full), (1, full))), "many")


class InputsTest(PlanErrorCase):
    def check_numbers(self, numbers, wanted):
        parts = tuple((1, number) for number in numbers)
        self.check((2, 0, parts), wanted)
        self.check((2, 0, ((1, (3, 1, parts)),)), wanted)
        if len(parts) > 1:
            self.check((2, 0, parts[:1] + ((1, (3, 1, parts[1:])),)), wanted)

    def test_each_one_once(self):
        for many in (1, 2, 3, 12, 23, 24):
            self.check_numbers(range(many), None)
            self.check_numbers(reversed(range(many)), None)
        self.check_numbers((2, 0, 1), None)

    def test_one_twice(self):
        for numbers in ((0, 0), (0, 1, 1), (0, 1, 0), (1, 1), (0, 2, 2), tuple(range(23)) + (22,)):
            self.check_numbers(numbers, "inputs")

    def test_one_left_out(self):
        for numbers in ((1,), (23,), (0, 2), (1, 2), (0, 1, 23), tuple(range(1, 24))):
            self.check_numbers(numbers, "inputs")

    def test_one_at_two_stages(self):
        self.check((2, 0, ((1, (2, 0, ((1, 0), (1, 1)))), (1, (2, 0, ((1, 1), (1, 2)))))), "inputs")

    def test_more_places_than_inputs(self):
        parts = tuple((1, number) for number in range(24))
        self.check((2, 0, ((1, (2, 0, parts)), (1, (2, 0, parts)))), "inputs")


class TwoFaultsTest(PlanErrorCase):
    def test_at_one_stage_the_one_told_first_counts(self):
        self.check_stage((0, 5, ()), "form")
        self.check_stage((0, 5, ((2, 0),)), "divisor")
        self.check_stage((0, 0, ((2, 0),)), "divisor")
        self.check_stage((0, -1, ((1, 0),)), "divisor")
        self.check_stage((2, 2, ((0, 0),)), "offset")
        self.check_stage((GREAT + 1, GREAT + 1, ((GREAT + 1, 0),)), "divisor")

    def test_a_stage_counts_ahead_of_what_is_beneath(self):
        self.check_stage((2, 0, ((2, None),)), "weights")
        self.check_stage((2, 0, ((2, (0, 0, ((1, 0),))),)), "weights")
        self.check_stage((2, 2, ((1, (2, 0, ())),)), "offset")
        self.check_stage((True, 0, ((1, 24),)), "divisor")
        self.check_stage((2, 0, ((1, 24), 0)), "form")

    def test_the_first_way_counts(self):
        bad_offset, bad_divisor = (2, 2, ((1, 0),)), (0, 0, ((1, 1),))
        self.check((2, 0, ((1, bad_offset), (1, bad_divisor))), ("offset", (0,)))
        self.check((2, 0, ((1, bad_divisor), (1, bad_offset))), ("divisor", (0,)))
        self.check((2, 0, ((1, None), (1, bad_divisor))), ("form", (0,)))
        self.check((2, 0, ((1, bad_divisor), (1, None))), ("divisor", (0,)))

    def test_what_is_beneath_counts_ahead_of_what_is_beside(self):
        inner = (2, 0, ((1, 0), (1, (2, 2, ((1, 1),)))))
        for beside in (None, 24, (0, 0, ((1, 2),)), (2, 0, ())):
            self.check((2, 0, ((1, inner), (1, beside))), ("offset", (0, 1)))

    def test_ways_are_ordered_by_numbers(self):
        things = [0, 1, (2, 2, ((1, 2),))] + list(range(3, 10)) + [None, 24]
        parts = tuple((1, thing) for thing in things)
        self.check((2, 0, parts), ("offset", (2,)))
        self.check((2, 0, parts[:2] + ((1, 2),) + parts[3:]), ("form", (10,)))

    def test_a_wrong_thing_counts_ahead_of_inputs(self):
        self.check((2, 0, ((1, 0), (1, 0), (1, (2, 2, ((1, 1),))))), ("offset", (2,)))
        self.check((2, 0, ((1, 5), (2, 5), (1, 24))), ("form", (2,)))


if __name__ == "__main__":
    unittest.main()
