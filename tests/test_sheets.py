import unittest
from itertools import product

from strict import (
    ADDED,
    BLEND,
    CHAIN,
    FOUR,
    FULL,
    GREAT,
    HALF,
    LESS,
    MIXED,
    NO_INTEGERS,
    ONE,
    PLANS,
    SMALL,
    WIDE,
    Dice,
    StrictCase,
    divisors_of,
    inputs_in,
    numbers,
    row_of_stages,
    spoilt,
    spread_by_stages,
    told,
    tower,
    worth,
)

from stagecuts.changes import all_changes
from stagecuts.errors import (
    BadLog,
    BadPlan,
    CutsError,
    NothingToRedo,
    NothingToUndo,
    TooMany,
    TooManyEdits,
    Unfit,
)
from stagecuts.merging import joined, merged
from stagecuts.plans import offsets_of, plan_error, stages_of, with_offsets
from stagecuts.shares import form_of
from stagecuts.sheets import Sheet, sheet_behind

PAIR = (3, 0, ((2, 0), (5, 1)))
# Merged it would have a divisor of 2 * 10 ** 30.
GREAT_MERGED = (GREAT, 0, ((1, (2, 1, ((1, 0),))),))
NO_PLANS = (
    0, -1, "(2 0: 1*0)", (2, 0, ()), [2, 0, ((1, 0),)], (2, 0, [(1, 0)]), (2, 0, ([1, 0],)), (0, 0, ((1, 0),)),
    (2, 2, ((1, 0),)),
    (2, 0, ((2, 0), (4, 1))), (2, 0, ((True, 0),)), (2, True, ((1, 0),)), (True, 0, ((1, 0),)), (2, 0, ((1, False),)),
    (2, 0, ((1, 1),)), (2, 0, ((1, 0), (1, 0))), (2, 0, ((1, 24),)), tower(9), row_of_stages(13), (HALF, HALF),
    ((4, 1),),
    (2, 0, ((1, (2, 3, ((1, 0),))),)), (GREAT + 1, 0, ((1, 0),)), (2, 0, ((1, 0),), 0), (2, 0),
)


def after_put(plan, way, offset):
    """Return plan with this offset at the stage with this way."""
    offsets = [offset if own_way == way else own for own_way, own in zip(stages_of(plan), offsets_of(plan))]
    return with_offsets(plan, tuple(offsets))


class SheetCase(StrictCase):
    def check(self, sheet, plan, log):
        """Check all that sheet tells, if plan stands by these edits."""
        for _ in range(2):
            self.assert_same((sheet.plan, sheet.version, sheet.log), (plan, len(log), log))
        for row in (numbers(len(inputs_in(plan)), 20), numbers(len(inputs_in(plan)), 10 ** 60)):
            self.assert_same((sheet.told(row), sheet.told(row=row)), (told(plan, row),) * 2)
        self.assertIs(sheet.one(), spread_by_stages(plan) < 1)

    def check_refused(self, sheet, name, arguments, kind, held=None):
        """Call a method by place and by name: kind has to be raised, and nothing to change."""
        before = (sheet.plan, sheet.version, sheet.log)
        self.assert_refuses(getattr(sheet, name), arguments, kind, held or {})
        self.assert_same((sheet.plan, sheet.version, sheet.log), before)

    def check_edit(self, plan, name, arguments, wanted):
        """Do an edit on new sheets, by place and by names in both orders; return the last of them."""
        written = repr(arguments)
        edit = (name,) + tuple(arguments.values())
        turned = dict(reversed(list(arguments.items())))
        for by_place, by_name in ((edit[1:], {}), ((), arguments), ((), turned)):
            sheet = Sheet(plan)
            for version in (1, 2) if name != "join" else (1,):
                self.assert_same(getattr(sheet, name)(*by_place, **by_name), version)
                self.check(sheet, wanted, (edit,) * version)
        self.assertEqual(repr(arguments), written)
        return sheet


class NewTest(SheetCase):
    def test_a_plan(self):
        for plan in PLANS + SMALL + (PAIR, GREAT_MERGED):
            for sheet in (Sheet(plan), Sheet(plan=plan)):
                self.check(sheet, plan, ())
                self.check_refused(sheet, "undo", {}, NothingToUndo)
                self.check_refused(sheet, "redo", {}, NothingToRedo)

    def test_what_is_no_plan(self):
        for value in NO_INTEGERS + NO_PLANS:
            error = plan_error(value)
            self.assertIsNotNone(error)
            self.assert_refuses(Sheet, {"plan": value}, BadPlan, {"error": error})
            for log in ((), [], (("merge",),), None):
                self.assert_refuses(sheet_behind, {"plan": value, "log": log}, BadPlan, {"error": error})
        self.assert_refuses(Sheet, {"plan": ((4, 1),)}, BadPlan, {"error": ("form", ())})
        self.assert_refuses(Sheet, {"plan": row_of_stages(13)}, BadPlan, {"error": "many"})

    def test_what_can_only_be_read(self):
        sheet = Sheet(BLEND)
        sheet.put((1,), 1)
        plan, log = sheet.plan, sheet.log
        for name in ("plan", "version", "log"):
            for value in (HALF, 0, (), None):
                self.assertRaises(AttributeError, setattr, sheet, name, value)
            self.assertRaises(AttributeError, delattr, sheet, name)
        self.check(sheet, plan, log)

    def test_sheets_and_what_they_told_may_be_handed_in_as_values(self):
        sheet = Sheet(BLEND)
        sheet.put((1,), 1)
        self.assertEqual(plan_error(sheet), ("form", ()))
        self.assert_refuses(Sheet, {"plan": sheet}, BadPlan, {"error": ("form", ())})
        for value in (sheet, (sheet,), sheet.log, sheet.log[0]):
            self.check_refused(sheet, "put", {"way": value, "offset": 0}, Unfit)
            self.check_refused(sheet, "put", {"way": (), "offset": value}, Unfit)
            self.check_refused(sheet, "join", {"place": value, "other": HALF}, Unfit)
            self.check_refused(sheet, "join", {"place": 0, "other": value}, Unfit)
            self.check_refused(sheet, "told", {"row": value}, Unfit)
        for item in (sheet, (sheet,), sheet.log, sheet.log[0][1:]):
            self.assert_refuses(sheet_behind, {"plan": BLEND, "log": (item,)}, BadLog, {"place": 0})
        self.assert_refuses(sheet_behind, {"plan": BLEND, "log": sheet}, BadLog, {"place": 0})

    def test_sheets_do_not_disturb_each_other(self):
        first, second = Sheet(BLEND), Sheet(BLEND)
        first.put((1,), 1)
        second.merge()
        self.check(first, after_put(BLEND, (1,), 1), (("put", (1,), 1),))
        self.check(second, merged(BLEND), (("merge",),))
        first.undo()
        self.check(first, BLEND, ())
        self.check(second, merged(BLEND), (("merge",),))
        self.assertRaises(NothingToRedo, second.redo)
        self.assertEqual(first.redo(), 1)


class PutTest(SheetCase):
    def test_each_way_and_offset(self):
        for plan in SMALL + (MIXED, WIDE, PAIR):
            for way, divisor in zip(stages_of(plan), divisors_of(plan)):
                for offset in range(divisor) if divisor < 5 else (0, 1, divisor // 2, divisor - 1):
                    self.check_edit(plan, "put", {"way": way, "offset": offset}, after_put(plan, way, offset))

    def test_great_offsets(self):
        self.check_edit(ONE, "put", {"way": (), "offset": 0}, (GREAT, 0, ((-1, 0),)))
        self.check_edit(ONE, "put", {"way": (), "offset": GREAT - 1}, ONE)
        for way, divisor in zip(stages_of(FULL), divisors_of(FULL)):
            self.check_edit(FULL, "put", {"way": way, "offset": divisor - 1}, after_put(FULL, way, divisor - 1))

    def test_what_changes_nothing_is_an_edit_too(self):
        sheet = Sheet(HALF)
        for version in range(1, 6):
            self.assertEqual(sheet.put((), 0), version)
            self.check(sheet, HALF, (("put", (), 0),) * version)

    def test_offsets_that_do_not_fit(self):
        for plan in (HALF, CHAIN, FOUR, BLEND, WIDE, ONE, FULL, ADDED):
            sheet = Sheet(plan)
            for way, divisor in zip(stages_of(plan), divisors_of(plan)):
                for offset in (-1, divisor, divisor + 1, -divisor, 10 ** 399, -10 ** 399):
                    self.check_refused(sheet, "put", {"way": way, "offset": offset}, Unfit)
            for offset in NO_INTEGERS:
                self.check_refused(sheet, "put", {"way": (), "offset": offset}, Unfit)
            self.check(sheet, plan, ())

    def test_ways_that_are_none(self):
        for plan in (HALF, CHAIN, FOUR, BLEND, WIDE, FULL):
            sheet, ways = Sheet(plan), stages_of(plan)
            near = [way[:at] + (item,) + way[at + 1:] for way in ways for at in range(len(way))
                    for item in (-1, 0, 1, 2, 24)]
            near += [way + (item,) for way in ways
                     for item in (-1, 0, 1, 24, GREAT)] + [way[1:] for way in ways] + [(-1, -2), (-2, -1)]
            for way in near:
                if way not in ways:
                    self.check_refused(sheet, "put", {"way": way, "offset": 0}, Unfit)
            for value in NO_INTEGERS + (0, 1, -1):
                if value not in ways:
                    self.check_refused(sheet, "put", {"way": value, "offset": 0}, Unfit)
            self.check(sheet, plan, ())

    def test_ways_that_are_only_like_one(self):
        for plan, way in ((CHAIN, (1,)), (FOUR, (0,)), (FOUR, (1,)), (MIXED, (1, 1)), (WIDE, (10, 0))):
            sheet = Sheet(plan)
            for other in spoilt(way) + [tuple(map(bool, way)), (way,), [*way], str(way)]:
                if other != () and not (type(other) is tuple and all(type(item) is int for item in other)):
                    self.check_refused(sheet, "put", {"way": other, "offset": 0}, Unfit)
            self.check_refused(sheet, "put", {"way": way, "offset": True}, Unfit)
            self.check_refused(sheet, "put", {"way": way, "offset": False}, Unfit)

    def test_the_ways_of_the_plan_that_stands(self):
        sheet = Sheet(BLEND)
        self.assertEqual((sheet.put((1,), 1), sheet.merge()), (1, 2))
        self.check_refused(sheet, "put", {"way": (1,), "offset": 0}, Unfit)
        self.assertEqual(sheet.put((), 7), 3)
        self.check(sheet, (8, 7, ((6, 0), (1, 1), (-1, 2))), (("put", (1,), 1), ("merge",), ("put", (), 7)))
        sheet.undo()
        sheet.undo()
        self.check_refused(sheet, "put", {"way": (), "offset": 7}, Unfit)
        self.assertEqual(sheet.put((1,), 0), 2)


class JoinTest(SheetCase):
    def test_at_each_input(self):
        for plan, other in product((HALF, CHAIN, BLEND, MIXED, PAIR, ONE), repeat=2):
            for place in range(len(inputs_in(plan))):
                self.check_edit(plan, "join", {"place": place, "other": other}, joined(plan, place, other))

    def test_places_that_are_none(self):
        for plan in (HALF, WIDE, ONE):
            sheet = Sheet(plan)
            for place in (-1, len(inputs_in(plan)), 24, GREAT, -GREAT, 10 ** 399) + NO_INTEGERS:
                self.check_refused(sheet, "join", {"place": place, "other": HALF}, Unfit)
            self.check(sheet, plan, ())

    def test_what_is_no_plan(self):
        sheet = Sheet(BLEND)
        for other in NO_INTEGERS + NO_PLANS:
            self.check_refused(sheet, "join", {"place": 0, "other": other}, Unfit)
        for other in spoilt(PAIR):
            self.check_refused(sheet, "join", {"place": 0, "other": other}, Unfit)
        self.check(sheet, BLEND, ())

    def test_what_would_be_none(self):
        for plan, place, other in ((tower(8), 0, HALF), (HALF, 0, tower(8)), (row_of_stages(12), 3, ONE),
                                   (ONE, 0, row_of_stages(12)),
                                   ((2, 0, tuple((1, at) for at in range(24))), 23, HALF), (FULL, 0, ONE),
                                   (BLEND, 2, FULL)):
            sheet = Sheet(plan)
            self.check_refused(sheet, "join", {"place": place, "other": other}, Unfit)
            self.check(sheet, plan, ())

    def test_until_no_more_fits(self):
        sheet, plan, log = Sheet(HALF), HALF, ()
        for version in range(1, 12):
            place = version % 2 * (len(inputs_in(plan)) - 1)
            plan, log = joined(plan, place, HALF), log + (("join", place, HALF),)
            self.assertEqual(sheet.join(place, HALF), version)
            self.check(sheet, plan, log)
        for place in range(len(inputs_in(plan))):
            self.check_refused(sheet, "join", {"place": place, "other": (1, 0, ((1, 0),))}, Unfit)
        # Merged, some more will fit.
        sheet.merge()
        self.assertEqual(sheet.join(0, HALF), 13)


class MergeTest(SheetCase):
    def test_plans_of_all_kinds(self):
        for plan in SMALL + (MIXED, PAIR, tower(8), row_of_stages(12)):
            self.check_edit(plan, "merge", {}, merged(plan))

    def test_too_great(self):
        for plan in (GREAT_MERGED, FULL, WIDE, (1, 0, ((1, HALF), (GREAT, 2)))):
            sheet = Sheet(plan)
            self.check_refused(sheet, "merge", {}, TooMany, {"limit": GREAT})
            self.check(sheet, plan, ())
        sheet = Sheet((1, 0, ((-1, (GREAT, 0, ((1, 0),))),)))
        self.assertEqual(sheet.merge(), 1)
        self.check(sheet, (GREAT, GREAT - 1, ((-1, 0),)), (("merge",),))


class UndoTest(SheetCase):
    def test_to_the_end_and_back(self):
        sheet = Sheet(BLEND)
        edits = (("put", (1,), 1), ("join", 0, PAIR), ("put", (0,), 2), ("merge",), ("merge",), ("put", (), 3),
                 ("join", 1, HALF))
        plans = [BLEND]
        for edit in edits:
            getattr(sheet, edit[0])(*edit[1:])
            plans.append(sheet.plan)
        for _ in range(3):
            for version in range(len(edits) - 1, -1, -1):
                self.assert_same(sheet.undo(), version)
                self.check(sheet, plans[version], edits[:version])
            self.check_refused(sheet, "undo", {}, NothingToUndo)
            for version in range(1, len(edits) + 1):
                self.assert_same(sheet.redo(), version)
                self.check(sheet, plans[version], edits[:version])
            self.check_refused(sheet, "redo", {}, NothingToRedo)

    def test_some_way_back(self):
        sheet = Sheet(HALF)
        for offset in (1, 0, 1):
            sheet.put((), offset)
        self.assertEqual([sheet.undo(), sheet.undo(), sheet.redo(), sheet.undo(), sheet.undo(), sheet.redo()],
                         [2, 1, 2, 1, 0, 1])
        self.check(sheet, (2, 1, HALF[2]), (("put", (), 1),))
        self.assertEqual([sheet.redo(), sheet.redo()], [2, 3])
        self.check_refused(sheet, "redo", {}, NothingToRedo)

    def test_an_edit_forgets_what_was_taken_back(self):
        for forgetting in (("put", (1,), 0), ("join", 1, PAIR), ("merge",)):
            sheet = Sheet(BLEND)
            sheet.put((1,), 1)
            sheet.join(0, PAIR)
            sheet.merge()
            sheet.undo()
            sheet.undo()
            self.assertEqual(getattr(sheet, forgetting[0])(*forgetting[1:]), 2)
            log = (("put", (1,), 1), forgetting)
            self.check(sheet, sheet_behind(BLEND, log).plan, log)
            self.check_refused(sheet, "redo", {}, NothingToRedo)
            sheet.undo()
            self.check(sheet, after_put(BLEND, (1,), 1), log[:1])
            self.assertEqual(sheet.redo(), 2)
            self.check_refused(sheet, "redo", {}, NothingToRedo)

    def test_the_same_edit_once_more_forgets_too(self):
        sheet = Sheet(HALF)
        sheet.put((), 1)
        sheet.put((), 0)
        sheet.undo()
        sheet.undo()
        self.assertEqual(sheet.put((), 1), 1)
        self.check_refused(sheet, "redo", {}, NothingToRedo)

    def test_a_refused_one_does_not(self):
        sheet = Sheet(GREAT_MERGED)
        sheet.put((), 7)
        sheet.put((0,), 0)
        sheet.undo()
        for name, arguments, kind, held in (
            ("put", {"way": (1,), "offset": 0}, Unfit, {}), ("put", {"way": (), "offset": GREAT}, Unfit, {}),
            ("put", {"way": None, "offset": None}, Unfit, {}), ("join", {"place": 1, "other": HALF}, Unfit, {}),
            ("join", {"place": 0, "other": 0}, Unfit, {}), ("join", {"place": 0, "other": tower(8)}, Unfit, {}),
            ("merge", {}, TooMany, {"limit": GREAT}), ("told", {"row": ()}, Unfit, {}),
        ):
            self.check_refused(sheet, name, arguments, kind, held)
        self.assertEqual(sheet.redo(), 2)
        self.check(sheet, (GREAT, 7, ((1, (2, 0, ((1, 0),))),)), (("put", (), 7), ("put", (0,), 0)))

    def test_what_only_asks_forgets_nothing(self):
        sheet = Sheet(BLEND)
        sheet.merge()
        sheet.undo()
        self.check(sheet, BLEND, ())
        self.assertEqual(sheet.redo(), 1)


class FortyTest(SheetCase):
    def forty(self, plan):
        sheet = Sheet(plan)
        for version in range(1, 41):
            self.assertEqual(sheet.put((), version % 2), version)
        return sheet

    def test_forty_edits_and_one_more(self):
        sheet = self.forty(CHAIN)
        log = tuple(("put", (), version % 2) for version in range(1, 41))
        plan = after_put(CHAIN, (), 0)
        self.check(sheet, plan, log)
        for _ in range(2):
            self.check_refused(sheet, "put", {"way": (1,), "offset": 1}, TooManyEdits)
            self.check_refused(sheet, "put", {"way": (), "offset": 0}, TooManyEdits)
            self.check_refused(sheet, "join", {"place": 0, "other": HALF}, TooManyEdits)
            self.check_refused(sheet, "merge", {}, TooManyEdits)
        self.check(sheet, plan, log)

    def test_what_does_not_fit_is_told_ahead(self):
        sheet = self.forty(GREAT_MERGED)
        self.check_refused(sheet, "put", {"way": (1,), "offset": 1}, Unfit)
        self.check_refused(sheet, "put", {"way": (0,), "offset": 2}, Unfit)
        self.check_refused(sheet, "join", {"place": 1, "other": HALF}, Unfit)
        self.check_refused(sheet, "join", {"place": 0, "other": None}, Unfit)
        self.check_refused(sheet, "join", {"place": 0, "other": tower(7)}, Unfit)
        self.check_refused(sheet, "merge", {}, TooMany, {"limit": GREAT})
        self.check_refused(sheet, "put", {"way": (0,), "offset": 0}, TooManyEdits)
        self.check_refused(sheet, "join", {"place": 0, "other": tower(6)}, TooManyEdits)

    def test_those_that_were_taken_back_do_not_count(self):
        sheet = self.forty(CHAIN)
        self.assertEqual((sheet.undo(), sheet.merge()), (39, 40))
        self.check_refused(sheet, "merge", {}, TooManyEdits)
        self.check_refused(sheet, "redo", {}, NothingToRedo)
        for version in range(39, -1, -1):
            self.assertEqual(sheet.undo(), version)
        for version in range(1, 41):
            self.assertEqual(sheet.redo(), version)
        self.check_refused(sheet, "merge", {}, TooManyEdits)
        sheet.undo()
        self.check_refused(sheet, "put", {"way": (0,), "offset": 0}, Unfit)
        self.assertEqual((sheet.redo(), sheet.version), (40, 40))

    def test_it_refuses_and_forgets_nothing(self):
        sheet = self.forty(CHAIN)
        self.check_refused(sheet, "merge", {}, TooManyEdits)
        self.assertEqual((sheet.undo(), sheet.undo(), sheet.redo()), (39, 38, 39))
        self.assertEqual((sheet.redo(), sheet.plan), (40, after_put(CHAIN, (), 0)))


class LogTest(SheetCase):
    def test_edits_as_they_were_handed_in(self):
        sheet = Sheet(BLEND)
        sheet.put(offset=1, way=(1,))
        sheet.join(other=PAIR, place=0)
        sheet.merge()
        self.assert_same(sheet.log, (("put", (1,), 1), ("join", 0, PAIR), ("merge",)))

    def test_a_log_does_not_change_later(self):
        sheet = Sheet(HALF)
        logs = [sheet.log]
        for offset in (1, 0, 1):
            sheet.put((), offset)
            logs.append(sheet.log)
        written = repr(logs)
        sheet.undo()
        sheet.undo()
        sheet.merge()
        self.assertEqual(repr(logs), written)
        self.assert_same(logs[2], (("put", (), 1), ("put", (), 0)))


class ToldTest(SheetCase):
    def test_rows(self):
        for plan in PLANS + SMALL:
            sheet = Sheet(plan)
            for size in (0, 1, 5, GREAT, 10 ** 399):
                row = numbers(len(inputs_in(plan)), size)
                self.assert_tells(sheet.told, {"row": row}, told(plan, row))

    def test_what_is_no_row(self):
        for plan in (HALF, BLEND, ONE, FULL):
            sheet, many = Sheet(plan), len(inputs_in(plan))
            for row in ((1,) * (many + 1), (1,) * (many - 1), (), [1] * many, (True,) * many,
                        (1,) * (many - 1) + (False,),
                        (None,) + (1,) * (many - 1), ("1",) * many, ((1,) * many,), {at: 1 for at in range(many)}, 1,
                        -1):
                self.check_refused(sheet, "told", {"row": row}, Unfit)
            for row in NO_INTEGERS:
                if row != (1,) * many and row != (1, 0)[:many]:
                    self.check_refused(sheet, "told", {"row": row}, Unfit)
                self.check_refused(sheet, "told", {"row": (row,) * many}, Unfit)

    def test_as_many_as_the_plan_that_stands_has(self):
        sheet = Sheet(HALF)
        sheet.join(1, HALF)
        self.assertEqual(sheet.told((4, 2, 3)), 3)
        self.check_refused(sheet, "told", {"row": (4, 2)}, Unfit)
        sheet.undo()
        self.assertEqual(sheet.told((4, 2)), 3)
        self.check_refused(sheet, "told", {"row": (4, 2, 3)}, Unfit)


class BehindTest(SheetCase):
    EDITS = (("put", (1,), 1), ("join", 0, PAIR), ("put", (0,), 2), ("merge",), ("put", (), 3), ("join", 1, HALF),
             ("merge",))

    def check_bad(self, plan, log, place):
        self.assert_refuses(sheet_behind, {"plan": plan, "log": log}, BadLog, {"place": place})

    def check_behind(self, plan, log):
        """Check what stands behind log, and all ahead of it; return the plans from the first on."""
        sheet = Sheet(plan)
        plans = [plan]
        for edit in log:
            getattr(sheet, edit[0])(*edit[1:])
            plans.append(sheet.plan)
        written = repr(log)
        for behind in (sheet_behind(plan, log), sheet_behind(plan=plan, log=log), sheet_behind(log=log, plan=plan),
                       sheet_behind(plan, log)):
            self.assertIs(type(behind), Sheet)
            self.check(behind, plans[-1], log)
            self.check_refused(behind, "redo", {}, NothingToRedo)
            for version in range(len(log) - 1, -1, -1):
                self.assertEqual((behind.undo(), behind.plan), (version, plans[version]))
            self.check_refused(behind, "undo", {}, NothingToUndo)
        self.assertEqual(repr(log), written)
        return plans

    def test_logs(self):
        for many in range(len(self.EDITS) + 1):
            self.check_behind(BLEND, self.EDITS[:many])
        self.check_behind(FULL, ())
        self.check_behind(CHAIN, (("merge",),) * 40)
        self.check_behind(HALF, tuple(("put", (), at % 2) for at in range(40)))
        self.check_behind(HALF, tuple(("join", at, HALF) for at in range(7)))

    def test_a_new_sheet_each_time(self):
        first, second = sheet_behind(HALF, (("put", (), 1),)), sheet_behind(HALF, (("put", (), 1),))
        first.undo()
        self.check(second, (2, 1, HALF[2]), (("put", (), 1),))

    def test_no_tuple(self):
        for log in (None, True, False, 0, 1, "", "merge", [], [("merge",)], [["merge"]], {}, {0: ("merge",)},
                    {("merge",): 1}, Unfit(), Sheet(HALF)):
            self.check_bad(HALF, log, 0)
        self.assertEqual(sheet_behind(HALF, ()).version, 0)

    def test_items_that_are_no_edits(self):
        no_edits = [item for item in NO_INTEGERS + (0, 1) if item != ()] + [
            (), ("merge", ()), ("merge", None), ("merg",), ("Merge",), ("put",), ("put", ()), ("put", (), 0, 0),
            ("join",), ("join", 0),
            ("join", 0, HALF, 0), ("undo",), ("redo",), ("told", (1, 2)), ("one",), ("plan",), ("log",), ("version",),
            ("_keep", (), HALF),
            ["merge"], ["put", (), 0], ["join", 0, HALF], "merge", (("merge",),), (("put", (), 0),), (["merge"],),
            ({"merge": 1},),
            ("put", 0, ()), ("join", HALF, 0), ("", (), 0), (None, (), 0), (1, 0, HALF), ("merge", (), 0),
            ("put", "join", "merge"),
            {0: "merge"}, b"merge", (b"merge",),
        ]
        for item in no_edits:
            for place, ahead in enumerate(((), (("merge",),), (("put", (), 1), ("put", (), 0)))):
                self.check_bad(HALF, ahead + (item,), place)
                self.check_bad(HALF, ahead + (item, ("merge",), item), place)

    def test_spoilt_edits(self):
        for edit in (("put", (1,), 1), ("join", 0, PAIR), ("merge",)):
            others = spoilt(edit)
            for other in others:
                # Some are edits all the same: the way is () then.
                if not self.is_done(BLEND, other):
                    self.check_bad(BLEND, (edit, other), 1)
            self.assertEqual(sum(self.is_done(BLEND, other) for other in others), 3 if edit[0] == "put" else 0)

    def is_done(self, plan, edit):
        """Tell whether edit is one that a sheet of plan does, by calls of its methods."""
        if type(edit) is not tuple or not edit or type(edit[0]) is not str or edit[0] not in ("put", "join", "merge"):
            return False
        try:
            getattr(Sheet(plan), edit[0])(*edit[1:])
        except (CutsError, TypeError):
            return False
        return True

    def test_refused_at_their_place(self):
        for refused in (("put", (1,), 2), ("put", (2,), 0), ("put", (1,), True), ("put", (True,), 0), ("put", [1], 0),
                        ("put", (), 4),
                        ("join", 3, PAIR), ("join", -1, PAIR), ("join", True, PAIR), ("join", 0, None),
                        ("join", 0, tower(8)), ("join", 0, FULL)):
            for place in range(3):
                self.check_bad(BLEND, (("put", (), 3),) * place + (refused,), place)
                self.check_bad(BLEND, (("put", (), 3),) * place + (refused, refused, None), place)
        self.check_bad(BLEND, (("merge",), ("put", (1,), 0)), 1)
        self.check_bad(BLEND, (("join", 0, PAIR), ("merge",), ("put", (0,), 0), ("put", (1,), 0)), 3)
        self.check_bad(GREAT_MERGED, (("put", (), 7), ("merge",)), 1)
        self.check_bad(GREAT_MERGED, (("merge",),), 0)

    def test_more_than_forty(self):
        for edit in (("merge",), ("put", (), 0)):
            self.check_behind(HALF, (edit,) * 40)
            for many in (41, 42, 100, 4000):
                self.check_bad(HALF, (edit,) * many, 40)
            self.check_bad(HALF, (edit,) * 40 + (None,), 40)
            self.check_bad(HALF, (edit,) * 39 + (None, edit, edit), 39)

    def test_the_log_of_a_sheet_after_undo(self):
        sheet = sheet_behind(BLEND, self.EDITS)
        for _ in range(len(self.EDITS)):
            sheet.undo()
            behind = sheet_behind(BLEND, sheet.log)
            self.assert_same((behind.plan, behind.version, behind.log), (sheet.plan, sheet.version, sheet.log))


class WalkTest(SheetCase):
    """Sheets against lists of plans and edits, by edits of all kinds that come by turns."""

    def throw(self, dice, plan):
        """Return a name of a method and arguments for it, often such as fit plan."""
        name = dice.pick(("put", "put", "put", "join", "merge", "undo", "undo", "redo", "redo"))
        if name == "put":
            ways = stages_of(plan) + ((0,), (1,), (True,), None)
            return name, (dice.pick(ways), dice.pick((0, 0, 1, 1, 2, 3, -1, True)))
        if name == "join":
            return name, (dice.pick((0, 0, 1, 1, 2, 5, -1, None)),
                          dice.pick((HALF, PAIR, ONE, (1, 0, ((-1, 0),)), None, (2, 0))))
        return name, ()

    def outcome(self, plan, name, arguments):
        """Return the plan that an edit of plan makes, or what it raises."""
        if name == "merge":
            try:
                return merged(plan)
            except TooMany:
                return TooMany
        first, second = arguments
        if name == "put":
            divisor_at = dict(zip(stages_of(plan), divisors_of(plan)))
            fits = type(first) is tuple and all(type(item) is int for item in first) and first in divisor_at
            fits = fits and type(second) is int and 0 <= second < divisor_at[first]
            return after_put(plan, first, second) if fits else Unfit
        if type(first) is not int or plan_error(second) is not None:
            return Unfit
        try:
            return joined(plan, first, second)
        except Unfit:
            return Unfit

    def test_walks(self):
        seen = set()
        for begin in range(60):
            dice = Dice(begin)
            first = dice.pick((HALF, CHAIN, FOUR, BLEND, LESS, GREAT_MERGED, MIXED))
            sheet, plans, edits, version = Sheet(first), [first], [], 0
            for _ in range(150):
                name, arguments = self.throw(dice, plans[version])
                if name in ("undo", "redo"):
                    wanted = version + (1 if name == "redo" else -1)
                    if not 0 <= wanted <= len(edits):
                        wanted = NothingToRedo if name == "redo" else NothingToUndo
                else:
                    wanted = self.outcome(plans[version], name, arguments)
                    if type(wanted) is tuple and version == 40:
                        wanted = TooManyEdits
                    if type(wanted) is tuple:
                        plans, edits = plans[:version + 1] + [wanted], edits[:version] + [(name,) + arguments]
                        wanted = version + 1
                seen.add((name, wanted if type(wanted) is type else "done"))
                if type(wanted) is type:
                    self.assertRaises(wanted, getattr(sheet, name), *arguments)
                else:
                    self.assert_same(getattr(sheet, name)(*arguments), wanted)
                    version = wanted
                self.assert_same((sheet.plan, sheet.version, sheet.log),
                                 (plans[version], version, tuple(edits[:version])))
            self.check(sheet, plans[version], tuple(edits[:version]))
            behind = sheet_behind(first, sheet.log)
            self.check(behind, plans[version], tuple(edits[:version]))
        self.assertTrue({("put", "done"), ("put", Unfit), ("join", "done"), ("join", Unfit), ("merge", "done"),
                         ("merge", TooMany),
                         ("undo", "done"), ("undo", NothingToUndo), ("redo", "done"), ("redo", NothingToRedo)} <= seen)


class WhatHoldsTest(SheetCase):
    def test_put_changes_by_one_of_all_changes(self):
        for plan in SMALL:
            for way, divisor in zip(stages_of(plan), divisors_of(plan)):
                for offset in range(divisor):
                    sheet, noughts = Sheet(plan), (0,) * len(inputs_in(plan))
                    sheet.put(way, offset)
                    changes = all_changes(plan, offsets_of(sheet.plan), noughts)
                    for begin in range(1, 9):
                        row = numbers(len(noughts), 9, begin)
                        self.assertIn(sheet.told(row) - told(plan, row), changes)

    def test_merge_changes_neither_what_is_told_nor_one(self):
        for plan in SMALL + (MIXED, row_of_stages(12), tower(8)):
            sheet = Sheet(plan)
            one = sheet.one()
            sheet.merge()
            self.assertIs(sheet.one(), one)
            for begin in range(1, 9):
                row = numbers(len(inputs_in(plan)), 50, begin)
                self.assertEqual(sheet.told(row), told(plan, row))

    def test_one_does_not_hang_on_sizes(self):
        self.assertIs(Sheet(GREAT_MERGED).one(), True)
        self.assertIs(Sheet((GREAT, 0, ((1, (GREAT, 1, ((-1, 0),))), (GREAT, 1)))).one(), True)
        self.assertIs(Sheet((GREAT, 0, ((2, (GREAT, 1, ((-1, 0),))), (GREAT - 1, 1)))).one(), False)

    def test_join_makes_the_spread_grow(self):
        for plan, other in product((HALF, CHAIN, BLEND, LESS, FOUR, ADDED), repeat=2):
            for place in range(len(inputs_in(plan))):
                sheet = Sheet(plan)
                sheet.join(place, other)
                grown = spread_by_stages(other) * abs(worth(form_of(plan)[place]))
                self.assertEqual(spread_by_stages(sheet.plan), spread_by_stages(plan) + grown)
                self.assertIs(sheet.one(), spread_by_stages(plan) + grown < 1)

    def test_once_not_one_it_stays_so_but_by_undo(self):
        sheet = Sheet(BLEND)
        self.assertTrue(sheet.one())
        sheet.join(0, PAIR)
        for edit in (("put", (), 3), ("merge",), ("join", 1, HALF), ("put", (), 0), ("join", 0, (1, 0, ((1, 0),)))):
            self.assertFalse(sheet.one())
            getattr(sheet, edit[0])(*edit[1:])
        for _ in range(5):
            self.assertFalse(sheet.one())
            sheet.undo()
        self.assertFalse(sheet.one())
        sheet.undo()
        self.assertTrue(sheet.one())


class InterfaceTest(unittest.TestCase):
    def test_all_are_defined_in_their_own_file(self):
        for thing in (Sheet, sheet_behind):
            self.assertEqual(thing.__module__, "stagecuts.sheets")

    def test_all_methods_stand_in_the_class(self):
        for name in ("__init__", "plan", "version", "log", "put", "join", "merge", "undo", "redo", "told", "one"):
            self.assertIn(name, vars(Sheet))


if __name__ == "__main__":
    unittest.main()
