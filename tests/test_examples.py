"""The examples of the document, as they stand there."""

import doctest
import unittest

from stagecuts.errors import CutsError

PLANS = """
    >>> from stagecuts.plans import inputs_of, offsets_of, plan_error, stages_of, with_offsets
    >>> half, chain = (2, 0, ((1, 0), (1, 1))), (2, 1, ((1, 0), (1, (2, 0, ((1, 1), (1, 2))))))
    >>> four = (2, 1, ((1, (2, 0, ((1, 0), (1, 1)))), (1, (2, 0, ((1, 2), (1, 3))))))
    >>> [plan_error(value) for value in (half, chain, four, 0, (2, 0, ()), [2, 0, ((1, 0),)], (0, 0, ((1, 0),)), (2, 2, ((1, 0),)), (2, 0, ((2, 0), (4, 1))), (2, 0, ((True, 0),)))]
    [None, None, None, ('form', ()), ('form', ()), ('form', ()), ('divisor', ()), ('offset', ()), ('weights', ()), ('weights', ())]
    >>> [plan_error((2, 0, ((1, 0), (1, thing)))) for thing in (1, 0, 2, 24, (3, 3, ((1, 1),)), (3, 0, ((1, 1), 2)), (1, 0, ((-1, 1),)))]
    [None, 'inputs', 'inputs', ('form', (1,)), ('offset', (1,)), ('form', (1,)), None]
    >>> stages_of(four), inputs_of(four), offsets_of(four), offsets_of(with_offsets(four, (0, 1, 0))), with_offsets(half, (1,))
    (((), (0,), (1,)), 4, (1, 0, 0), (0, 1, 0), (2, 1, ((1, 0), (1, 1))))
"""
TEXTS = """
    >>> from stagecuts.plantexts import plan_text, read_plan
    >>> plan_text(chain), read_plan("(4 2: 6*0 -1*1 -1*2)"), read_plan(plan_text(four)) == four
    ('(2 1: 1*0 1*(2 0: 1*1 1*2))', (4, 2, ((6, 0), (-1, 1), (-1, 2))), True)
    >>> read_plan("(2 0: 1*0  1*1)")
    raises BadText()
    >>> read_plan("(2 0: 1*1)")
    raises BadText()
    >>> read_plan("(2 00: 1*0)")
    raises BadText()
"""
RUNNING = """
    >>> from stagecuts.running import error_of, exact_of, rests_of, told_by
    >>> blend = (4, 1, ((3, 0), (1, (2, 0, ((1, 1), (-1, 2))))))
    >>> told_by(blend, (5, 7, 2)), rests_of(blend, (5, 7, 2)), told_by(blend, (-1, 0, 1)), rests_of(blend, (-1, 0, 1))
    (4, (2, 1), -1, (1, 1))
    >>> less = (2, 0, ((1, 0), (-1, (3, 1, ((1, 1), (2, 2))))))
    >>> told_by(less, (4, 5, 1)), rests_of(less, (4, 5, 1)), told_by(less, (10 ** 40, 0, 0)), rests_of(less, (10 ** 40, 0, 0))
    (1, (0, 2), 5000000000000000000000000000000000000000, (0, 1))
    >>> added = (1, 0, ((2, 0), (1, (1, 0, ((1, 1), (3, 2))))))
    >>> told_by(added, (5, -4, 2)), rests_of(added, (5, -4, 2))
    (12, (0, 0))
"""
EXACT = """
    >>> exact_of(blend, (5, 7, 2)), error_of(blend, (5, 7, 2)), exact_of(blend, (-1, 0, 1)), error_of(blend, (-1, 0, 1))
    ((35, 8), (-3, 8), (-7, 8), (-1, 8))
    >>> exact_of(less, (4, 5, 1)), error_of(less, (4, 5, 1)), exact_of(added, (5, -4, 2)), error_of(added, (5, -4, 2))
    ((5, 6), (1, 6), (12, 1), (0, 1))
"""
SHARES = """
    >>> from stagecuts.shares import form_of, shares_of
    >>> shares_of(blend), form_of(blend), shares_of(less), form_of(less)
    (((1, 1), (1, 4)), ((3, 4), (1, 8), (-1, 8)), ((1, 1), (-1, 2)), ((1, 2), (-1, 6), (-1, 3)))
    >>> shares_of(added), form_of(added), shares_of((6, 5, ((-1, 0),))), form_of((6, 5, ((-1, 0),)))
    (((1, 1), (1, 1)), ((2, 1), (1, 1), (3, 1)), ((1, 1),), ((-1, 6),))
"""
SLIPS = """
    >>> from stagecuts.slips import all_slips, greatest_slip, least_slip
    >>> blend, less = (4, 1, ((3, 0), (1, (2, 0, ((1, 1), (-1, 2)))))), (2, 0, ((1, 0), (-1, (3, 1, ((1, 1), (2, 2))))))
    >>> least_slip(blend), greatest_slip(blend), least_slip(less), greatest_slip(less)
    ((-5, 8), (1, 4), (-2, 3), (1, 6))
    >>> all_slips(blend)
    ((-5, 8), (-1, 2), (-3, 8), (-1, 4), (-1, 8), (0, 1), (1, 8), (1, 4))
    >>> all_slips(less), all_slips((3, 1, ((1, 0), (1, 1), (1, 2))))
    (((-2, 3), (-1, 2), (-1, 3), (-1, 6), (0, 1), (1, 6)), ((-1, 3), (0, 1), (1, 3)))
    >>> all_slips((1, 0, ((2, 0), (1, (2, 1, ((1, 1), (1, 2))))))), all_slips((1, 0, ((5, 0), (-4, 1))))
    (((0, 1), (1, 2)), ((0, 1),))
    >>> all_slips((4097, 0, ((1, 0),)))
    raises TooMany(4096)
"""
REACHING = """
    >>> from stagecuts.reaching import reach
    >>> from stagecuts.running import rests_of, told_by
    >>> [(told_by(blend, row), rests_of(blend, row)) for row in (reach(blend, (2, 1), 4), reach(blend, (0, 0), -100), reach(blend, (3, 1), 10 ** 30))] == [(4, (2, 1)), (-100, (0, 0)), (10 ** 30, (3, 1))]
    True
    >>> reach((6, 5, ((-1, 0),)), (2,), 7), reach((1, 0, ((1, 0),)), (0,), -3)
    ((-39,), (-3,))
    >>> reach(blend, (2, 1), True)
    raises Unfit()
"""
ROUNDING = """
    >>> from stagecuts.rounding import rounding_holds, rounding_paper, spread
    >>> spread(half), spread(chain), spread(four), spread((1, 0, ((1, 0), (-3, 1))))
    ((1, 2), (3, 4), (1, 1), (0, 1))
    >>> rounding_paper(half), rounding_paper(chain), rounding_paper((4, 3, ((1, 0), (-1, (2, 1, ((1, 1),))))))
    (('one', (0, 1), (1, 2)), ('one', (1, 2), (3, 4)), ('one', (3, 4), (7, 8)))
    >>> [rounding_holds(four, value) for value in (("two", (1, 1, 0, 0), (1, 0, 1, 0)), ("two", (1, 0, 1, 0), (1, 1, 0, 0)), ("one", (1, 2), (1, 2)), ["two", (1, 1, 0, 0), (1, 0, 1, 0)], ("two", (1, 1, 0), (1, 0, 1)), None)]
    [True, False, False, False, False, False]
    >>> rounding_holds(four, rounding_paper(four)), rounding_holds(chain, ("one", (1, 2), (3, 4))), rounding_holds(chain, ("one", (2, 4), (3, 4)))
    (True, True, False)
"""
TURNING = """
    >>> from stagecuts.turning import beside, turned_by, turned_rows
    >>> wide = (1, 0, ((3, (4, 0, ((1, 0),))), (1, 1)))
    >>> turned_by(half), turned_by(four), turned_by(wide), spread(wide)
    (0, 1, 2, (9, 4))
    >>> [beside(four, fraction) for fraction in ((1, 2), (0, 1), (1, 4), (-1, 1), (3, 2))], beside(chain, (1, 2)), beside(chain, (3, 4))
    ([(True, False), (False, True), (False, True), (False, True), (True, False)], (True, True), (True, False))
"""
CHANGES = """
    >>> from stagecuts.changes import all_changes, change_row, greatest_change, least_change
    >>> blend = (4, 1, ((3, 0), (1, (2, 0, ((1, 1), (-1, 2))))))
    >>> [all_changes(blend, (1, 0), steps) for steps in ((0, 0, 0), (0, 1, 0), (2, 0, 0), (0, 0, 3), (0, 1, 1))]
    [(0,), (0, 1), (1, 2), (-1, 0), (0,)]
    >>> [(least_change(blend, offsets, (0, 0, 0)), greatest_change(blend, offsets, (0, 0, 0))) for offsets in ((3, 1), (0, 1), (1, 1), (0, 0))]
    [(0, 1), (-1, 0), (0, 1), (-1, 0)]
    >>> holes = (2, 0, ((5, (3, 0, ((1, 0),))), (1, 1)))
    >>> all_changes(holes, (0, 0), (1, 0)), all_changes(holes, (1, 0), (1, -1)), all_changes(holes, (0, 2), (0, 10 ** 30))
    ((0, 2, 3), (0, 2, 3), (500000000000000000000000000000, 500000000000000000000000000002, 500000000000000000000000000003))
"""
CHANGE_ROW = """
    >>> from stagecuts.plans import with_offsets
    >>> from stagecuts.running import told_by
    >>> first = change_row(blend, (1, 0), (0, 1, 0), 1)
    >>> told_by(blend, (first[0], first[1] + 1, first[2])) - told_by(blend, first), told_by(blend, (2, 1, 0)), told_by(blend, (2, 2, 0))
    (1, 1, 2)
    >>> second = change_row(blend, (0, 1), (0, 0, 0), -1)
    >>> told_by(with_offsets(blend, (0, 1)), second) - told_by(blend, second)
    -1
    >>> change_row(holes, (0, 0), (1, 0), 1)
    raises Unfit()
    >>> change_row(blend, (1, 0), (0, 1, 0), True)
    raises Unfit()
"""
OFFSETS = """
    >>> from stagecuts.offsets import best_offsets, offsets_for
    >>> line, turned = (2, 0, ((1, (4, 0, ((1, 0), (3, 1)))),)), (2, 0, ((-1, (4, 0, ((1, 0),))),))
    >>> [offsets_for(line, fraction) for fraction in ((0, 1), (1, 2), (1, 3), (7, 8), (99, 100))]
    [(0, 0), (1, 0), (0, 2), (1, 3), (1, 3)]
    >>> offsets_for(turned, (0, 1)), offsets_for(turned, (1, 2)), offsets_for(turned, (3, 4)), offsets_for((3, 0, ((1, 0), (5, (1, 0, ((1, 1), (-1, 2)))))), (1, 2))
    ((0, 3), (1, 3), (1, 1), (1, 0))
    >>> offsets_for(line, (1, 1))
    raises Unfit()
    >>> offsets_for(line, (-1, 8))
    raises Unfit()
    >>> split = (2, 0, ((2, (2, 0, ((1, 0),))), (1, 1)))
    >>> offsets_for(split, (1, 2))
    raises Unfit()
    >>> best_offsets((3, 0, ((1, 0),))), best_offsets((4, 0, ((1, 0),)))[0], best_offsets((4, 0, ((1, 0),)))[1] in ((1,), (2,))
    (((1, 3), (1,)), (1, 2), True)
    >>> best_offsets(line)[0], best_offsets(line)[1] in ((1, 0), (0, 3)), best_offsets(split)[0], best_offsets(split)[1] in ((0, 1), (1, 0))
    ((1, 2), True, (1, 2), True)
    >>> best_offsets((4097, 0, ((1, 0),)))
    raises TooMany(4096)
"""
MERGING = """
    >>> from stagecuts.merging import joined, merged
    >>> from stagecuts.running import told_by
    >>> half, means = (2, 0, ((1, 0), (1, 1))), (2, 1, ((1, (2, 0, ((1, 0), (1, 1)))), (1, (2, 1, ((1, 2), (1, 3))))))
    >>> merged(means), merged(half)
    ((4, 2, ((1, 0), (1, 1), (2, (2, 1, ((1, 2), (1, 3)))))), (2, 0, ((1, 0), (1, 1))))
    >>> below = (3, 1, ((1, (4, 2, ((-1, (2, 0, ((3, 0), (1, 1)))), (5, 2)))),))
    >>> merged(below), [(told_by(below, row), told_by(merged(below), row)) for row in ((0, 0, 2), (1, 0, 0), (7, 0, 0))]
    ((24, 13, ((-3, 0), (-1, 1), (10, 2))), [(1, 1), (0, 0), (-1, -1)])
    >>> merged((5, 2, ((2, (1, 0, ((1, 0), (-3, 1)))), (3, 2)))), merged((1, 0, ((2, half), (1, 2))))
    ((5, 2, ((2, 0), (-6, 1), (3, 2))), (1, 0, ((2, (2, 0, ((1, 0), (1, 1)))), (1, 2))))
    >>> merged((10 ** 30, 0, ((1, half), (1, 2))))
    raises TooMany(1000000000000000000000000000000)
"""
JOINING = """
    >>> joined(half, 0, half), joined(half, 1, half)
    ((2, 0, ((1, (2, 0, ((1, 0), (1, 1)))), (1, 2))), (2, 0, ((1, 0), (1, (2, 0, ((1, 1), (1, 2)))))))
    >>> joined(below, 2, (1, 0, ((1, 0),)))
    (3, 1, ((1, (4, 2, ((-1, (2, 0, ((3, 0), (1, 1)))), (5, (1, 0, ((1, 2),)))))),))
    >>> joined(half, 2, half)
    raises Unfit()
"""
SHEETS = """
    >>> from stagecuts.plans import stages_of
    >>> from stagecuts.sheets import Sheet, sheet_behind
    >>> blend, pair = (4, 1, ((3, 0), (1, (2, 0, ((1, 1), (-1, 2)))))), (3, 0, ((2, 0), (5, 1)))
    >>> s = Sheet(blend)
    >>> [s.version, s.told((4, 3, 6)), s.one(), s.put((1,), 1), s.told((4, 3, 6)), s.merge(), s.told((4, 3, 6)), stages_of(s.plan)]
    [0, 2, True, 1, 3, 2, 3, ((),)]
    >>> [s.undo(), s.join(0, pair), s.one(), s.told((1, 2, 3, 6)), s.undo(), s.redo(), s.log == (("put", (1,), 1), ("join", 0, pair))]
    [1, 2, False, 3, 1, 2, True]
    >>> s.put((2,), 0)
    raises Unfit()
    >>> s.put((), 4)
    raises Unfit()
    >>> s.told((1, 2, 3))
    raises Unfit()
    >>> s.redo()
    raises NothingToRedo()
    >>> Sheet((10 ** 30, 0, ((1, (2, 1, ((1, 0),))),))).merge()
    raises TooMany(1000000000000000000000000000000)
    >>> Sheet(((4, 1),))
    raises BadPlan(('form', ()))
"""
BEHIND = """
    >>> behind = sheet_behind(blend, s.log)
    >>> behind.plan == s.plan, behind.log == s.log, behind.version, sheet_behind(blend, ()).plan == blend
    (True, True, 2, True)
    >>> sheet_behind(blend, (("merge",), ("put", (1,), 0)))
    raises BadLog(1)
    >>> sheet_behind(blend, [])
    raises BadLog(0)
"""


def outcome(source, names):
    """Return what is shown of source, or what it raises, as the document writes it."""
    try:
        try:
            code = compile(source, "DOC.md", "eval")
        except SyntaxError:
            exec(source, names)
            return ""
        return repr(eval(code, names)) + "\n"
    except CutsError as error:
        held = ", ".join(repr(value) for value in vars(error).values())
        return f"raises {type(error).__name__}({held})\n"


class ExamplesTest(unittest.TestCase):
    def check(self, text, many):
        examples = doctest.DocTestParser().get_examples(text)
        self.assertEqual(len(examples), many)
        names = {}
        for example in examples:
            self.assertEqual(outcome(example.source, names), example.want, example.source)

    def test_plans(self):
        self.check(PLANS, 6)

    def test_texts(self):
        self.check(PLANS + TEXTS, 6 + 5)

    def test_running(self):
        self.check(RUNNING, 7)

    def test_exact(self):
        self.check(RUNNING + EXACT, 7 + 2)

    def test_shares(self):
        self.check(RUNNING + SHARES, 7 + 3)

    def test_slips(self):
        self.check(SLIPS, 7)

    def test_reaching(self):
        self.check(SLIPS + REACHING, 7 + 5)

    def test_rounding(self):
        self.check(PLANS + ROUNDING, 6 + 5)

    def test_turning(self):
        self.check(PLANS + ROUNDING + TURNING, 6 + 5 + 4)

    def test_changes(self):
        self.check(CHANGES + CHANGE_ROW, 6 + 8)

    def test_offsets(self):
        self.check(OFFSETS, 11)

    def test_merging(self):
        self.check(MERGING + JOINING, 8 + 3)

    def test_sheets(self):
        self.check(SHEETS + BEHIND, 12 + 4)

    def test_all_in_their_order(self):
        early = PLANS + TEXTS + RUNNING + EXACT + SHARES + SLIPS + REACHING + ROUNDING + TURNING
        late = CHANGES + CHANGE_ROW + OFFSETS + MERGING + JOINING + SHEETS + BEHIND
        self.check(early + late, 6 + 5 + 7 + 2 + 3 + 7 + 5 + 5 + 4 + 52)


if __name__ == "__main__":
    unittest.main()
