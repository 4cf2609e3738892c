import unittest

from strict import (
    CHAIN,
    FOUR,
    FULL,
    GREAT,
    HALF,
    MIXED,
    ONE,
    WIDE,
    WIDE_WAYS,
    StrictCase,
    divisors_of,
    row_of_stages,
    tower,
)

from stagecuts.plans import inputs_of, offsets_of, plan_error, stages_of, with_offsets

ALL = (HALF, CHAIN, FOUR, ONE, WIDE, MIXED, FULL, tower(8), row_of_stages(12))


class PlansCase(StrictCase):
    def check_all(self, function, table):
        for plan, wanted in table:
            self.assert_tells(function, {"plan": plan}, wanted)

    def test_what_is_used_here_are_plans(self):
        self.assertEqual([plan_error(plan) for plan in ALL], [None] * len(ALL))


class StagesTest(PlansCase):
    def test_one_stage(self):
        self.check_all(stages_of, ((HALF, ((),)), (ONE, ((),))))

    def test_stages_side_by_side(self):
        side = ((),) + tuple((at,) for at in range(11))
        self.check_all(stages_of, ((FOUR, ((), (0,), (1,))), (row_of_stages(12), side)))

    def test_stages_one_within_another(self):
        deep = tuple((0,) * many for many in range(8))
        table = ((CHAIN, ((), (1,))), (tower(8), deep), (MIXED, ((), (1,), (1, 1))))
        self.check_all(stages_of, table)

    def test_ways_are_ordered_as_tuples_of_integers(self):
        self.check_all(stages_of, ((WIDE, WIDE_WAYS),))
        self.assertEqual(list(WIDE_WAYS), sorted(WIDE_WAYS))


class InputsTest(PlansCase):
    def test_how_many(self):
        full = (2, 0, tuple((1, at) for at in range(24)))
        table = ((HALF, 2), (CHAIN, 3), (FOUR, 4), (ONE, 1), (tower(8), 1), (MIXED, 5), (WIDE, 16))
        self.check_all(inputs_of, table + ((full, 24), (row_of_stages(12), 11)))


class OffsetsTest(PlansCase):
    def test_in_order(self):
        table = ((HALF, (0,)), (CHAIN, (1, 0)), (FOUR, (1, 0, 0)), (ONE, (GREAT - 1,)))
        self.check_all(offsets_of, table)
        self.check_all(offsets_of, ((MIXED, (1, 9, 0)), (WIDE, (3, 0, 4, 1, 1, 2, 2, 8))))
        self.check_all(offsets_of, ((tower(8), (0,) * 8),))


class WithOffsetsTest(PlansCase):
    def check(self, plan, offsets, wanted):
        self.assert_tells(with_offsets, {"plan": plan, "offsets": offsets}, wanted)

    def test_one_stage(self):
        self.check(HALF, (1,), (2, 1, ((1, 0), (1, 1))))
        self.check(ONE, (0,), (GREAT, 0, ((-1, 0),)))

    def test_several_stages(self):
        self.check(CHAIN, (0, 1), (2, 0, ((1, 0), (1, (2, 1, ((1, 1), (1, 2)))))))
        beneath = (2, 1, ((1, 0), (1, 1))), (2, 0, ((1, 2), (1, 3)))
        self.check(FOUR, (0, 1, 0), (2, 0, ((1, beneath[0]), (1, beneath[1]))))
        inner = (10, 3, ((1, 1), (1, (8, 7, ((3, 4), (5, 0))))))
        self.check(MIXED, (2, 3, 7), (3, 2, ((1, 3), (-4, inner), (1, 2))))

    def test_its_own_offsets_change_nothing(self):
        for plan in ALL:
            self.check(plan, offsets_of(plan), plan)

    def test_noughts_and_the_greatest_ones_there_and_back(self):
        for plan in ALL:
            divisors = divisors_of(plan)
            greatest = tuple(divisor - 1 for divisor in divisors)
            for offsets in ((0,) * len(divisors), greatest):
                other = with_offsets(plan, offsets)
                self.assertIsNone(plan_error(other))
                self.assert_same(offsets_of(other), offsets)
                self.assertEqual((stages_of(other), inputs_of(other)), (stages_of(plan), inputs_of(plan)))
                self.check(other, offsets_of(plan), plan)

    def test_each_offset_goes_to_its_own_stage(self):
        divisors = divisors_of(WIDE)
        for at, divisor in enumerate(divisors):
            offsets = tuple(divisor - 1 if at == place else 0 for place in range(len(divisors)))
            other = with_offsets(WIDE, offsets)
            stage = other
            for place in WIDE_WAYS[at]:
                stage = stage[2][place][1]
            self.assert_same(stage[:2], (divisor, divisor - 1))
            self.assert_same(offsets_of(other), offsets)


class InterfaceTest(unittest.TestCase):
    def test_all_are_defined_in_their_own_file(self):
        for function in (plan_error, stages_of, inputs_of, offsets_of, with_offsets):
            self.assertEqual(function.__module__, "stagecuts.plans")


if __name__ == "__main__":
    unittest.main()
