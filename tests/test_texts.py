import re
import unittest

from strict import (
    ADDED,
    BLEND,
    CHAIN,
    FOUR,
    FULL,
    GREAT,
    HALF,
    LESS,
    MIXED,
    ONE,
    PLANS,
    WIDE,
    StrictCase,
    row_of_stages,
    tower,
)

from stagecuts.errors import BadLog, BadText, TooMany
from stagecuts.plans import plan_error, with_offsets
from stagecuts.plantexts import plan_text, read_plan

TABLE = (
    (HALF, "(2 0: 1*0 1*1)"),
    (CHAIN, "(2 1: 1*0 1*(2 0: 1*1 1*2))"),
    (FOUR, "(2 1: 1*(2 0: 1*0 1*1) 1*(2 0: 1*2 1*3))"),
    (BLEND, "(4 1: 3*0 1*(2 0: 1*1 -1*2))"),
    (LESS, "(2 0: 1*0 -1*(3 1: 1*1 2*2))"),
    (ADDED, "(1 0: 2*0 1*(1 0: 1*1 3*2))"),
    (MIXED, "(3 1: 1*3 -4*(10 9: 1*1 1*(8 0: 3*4 5*0)) 1*2)"),
    ((6, 5, ((-1, 0),)), "(6 5: -1*0)"),
    (ONE, "(1" + "0" * 30 + " " + "9" * 30 + ": -1*0)"),
    (tower(8), "(2 0: 1*" * 7 + "(2 0: 1*0)" + ")" * 7),
    (row_of_stages(12), "(2 0:" + "".join(f" 1*(2 0: 1*{at})" for at in range(11)) + ")"),
    ((2, 0, tuple((1, at) for at in range(24))), "(2 0:" + "".join(f" 1*{at}" for at in range(24)) + ")"),
    (
        (GREAT - 1, GREAT - 2, ((GREAT, 1), (1 - GREAT, 0))),
        f"({'9' * 30} {'9' * 29}8: 1{'0' * 30}*1 -{'9' * 30}*0)",
    ),
)
STAGE = re.compile(r"\((-?[0-9]+) (-?[0-9]+):((?: -?[0-9]+\*(?:-?[0-9]+|<[0-9]+>))*)\)")


def plan_behind(text):
    """Return the plan of which text is the text, None if there is none, from within outwards."""
    stages = []

    def keep(match):
        parts = []
        for weight, thing in re.findall(r" (\S+)\*(\S+)", match[3]):
            thing = stages[int(thing[1:-1])] if thing[0] == "<" else int(thing)
            parts.append((int(weight), thing))
        stages.append((int(match[1]), int(match[2]), tuple(parts)))
        return f"<{len(stages) - 1}>"

    if "<" in text or ">" in text or re.search("(?<![0-9])0[0-9]|-0", text):
        return None
    left, many = text, 1
    while many:
        left, many = STAGE.subn(keep, left)
    if not re.fullmatch("<[0-9]+>", left) or plan_error(stages[-1]) is not None:
        return None
    return stages[-1]


def edited(text, signs):
    """Return the set of the texts that differ from text by one sign, and of their kin."""
    found = set()
    for at in range(len(text)):
        found.add(text[:at] + text[at + 1:])
        found.add(text[:at] + text[at] + text[at:])
        found.add(text[:at])
        found.add(text[at:])
        found.add(text[:at] + text[at + 1:at + 2] + text[at] + text[at + 2:])
    for at in range(len(text) + 1):
        for sign in signs:
            found.add(text[:at] + sign + text[at:])
            found.add(text[:at] + sign + text[at + 1:])
    found.discard(text)
    return found


class TextsCase(StrictCase):
    def check_both(self, plan, text):
        self.assert_tells(plan_text, {"plan": plan}, text)
        self.assert_tells(read_plan, {"value": text}, plan)

    def check_none(self, *values):
        for value in values:
            self.assert_refuses(read_plan, {"value": value}, BadText, {})


class ThereAndBackTest(TextsCase):
    def test_texts_as_they_are_written(self):
        for plan, text in TABLE:
            self.check_both(plan, text)

    def test_what_is_used_here_are_plans(self):
        for plan in [plan for plan, _ in TABLE] + list(PLANS):
            self.assertIsNone(plan_error(plan))

    def test_all_plans_come_back(self):
        for plan in PLANS:
            text = plan_text(plan)
            self.check_both(plan, text)
            self.assertEqual(plan_behind(text), plan)

    def test_a_plan_at_all_bounds(self):
        text = plan_text(FULL)
        self.check_both(FULL, text)
        self.assertEqual((text.count("("), text.count("*"), text.count(":")), (12, 35, 12))

    def test_numbers_of_thirty_figures_and_one_more(self):
        for size in (GREAT // 10, GREAT - 1, GREAT):
            for weights in ((size, 1), (-size, 1), (1, -size), (-1, size)):
                plan = (size, size - 1, ((weights[0], 1), (weights[1], 0)))
                text = f"({size} {size - 1}: {weights[0]}*1 {weights[1]}*0)"
                self.check_both(plan, text)

    def test_unlike_plans_have_unlike_texts(self):
        plans = list(PLANS) + [
            (2, 1, ((1, 0), (1, 1))), (3, 0, ((1, 0), (1, 1))), (2, 0, ((1, 1), (1, 0))),
            (2, 0, ((-1, 0), (1, 1))), (2, 0, ((1, 0), (-1, 1))), (2, 0, ((1, 0), (11, 1))),
            (2, 0, ((11, 0), (1, 1))), (21, 0, ((1, 0), (1, 1))), (12, 0, ((1, 0), (1, 1))),
            (2, 0, ((1, (2, 0, ((1, 0), (1, 1)))),)), (2, 0, ((1, (2, 0, ((1, 0),))), (1, 1))),
            (2, 0, ((1, 0), (1, (2, 0, ((1, 1),))))), with_offsets(FOUR, (1, 0, 1)), with_offsets(FOUR, (1, 1, 0)),
        ]
        plans = list({plan: True for plan in plans})
        self.assertEqual(len({plan_text(plan) for plan in plans}), len(plans))
        for plan in plans:
            self.check_both(plan, plan_text(plan))

    def test_by_turns(self):
        for _ in range(3):
            for plan, text in TABLE:
                self.assert_same((plan_text(plan), read_plan(text)), (text, plan))


class NearlyOneTest(TextsCase):
    def check_near(self, text, signs):
        """Check all texts near to this one; some are texts of plans, most are of none."""
        right = 0
        for other in edited(text, signs):
            plan = plan_behind(other)
            if plan is None:
                with self.assertRaises(BadText, msg=other):
                    read_plan(other)
            else:
                right += 1
                self.assert_same((read_plan(other), plan_text(plan)), (plan, other))
        self.assertGreater(right, 0)

    def test_one_sign_off(self):
        for _, text in TABLE[:8]:
            self.check_near(text, "0123456789 ()*:-+_.,<>[]\n\tx\u0663\u00b2\uff11")

    def test_one_sign_off_in_long_ones(self):
        for _, text in TABLE[8:]:
            self.check_near(text, "019 (*:-")

    def test_blanks(self):
        self.check_none(" (2 0: 1*0)", "(2 0: 1*0) ", "( 2 0: 1*0)", "(2  0: 1*0)", "(20: 1*0)")
        self.check_none("(2 0 : 1*0)", "(2 0:1*0)", "(2 0:  1*0)", "(2 0: 1 *0)", "(2 0: 1* 0)")
        self.check_none("(2 0: 1*0 )", "(2 0: 1*0 1*1 )", "(2 0: 1*0  1*1)", "(2 0: 1*01*1)")
        self.check_none("(2 0: - 1*0)", "(2\t0: 1*0)", "(2 0:\t1*0)", "(2 0:\n1*0)", "(2\u00a00: 1*0)")

    def test_line_feeds(self):
        self.check_none("(2 0: 1*0)\n", "\n(2 0: 1*0)", "(2 0: 1*0\n)", "(2 0:\n 1*0)", "(2\n0: 1*0)")

    def test_brackets(self):
        self.check_none("2 0: 1*0", "(2 0: 1*0", "2 0: 1*0)", "((2 0: 1*0))", "(2 0: 1*0))", "((2 0: 1*0)")
        self.check_none("[2 0: 1*0]", "{2 0: 1*0}", "(2 0: 1*(0))", "(2 0: (1*0))", "(2 0: 1*(2 0: 1*0)")
        self.check_none("(2 0: 1*2 0: 1*0)", "()", "(", ")", "(2)", "(2 0)", "(2 0:)", "(2 0: )", "(2 0: 1)")
        self.check_none("(2 0: 1*)", "(2 0: *0)", "(2: 1*0)", "( 0: 1*0)", "(2 : 1*0)", "(: 1*0)")

    def test_signs(self):
        self.check_none("(+2 0: 1*0)", "(2 +0: 1*0)", "(2 0: +1*0)", "(2 0: 1*+0)", "(2 0: 1*-0)")
        self.check_none("(2 -0: 1*0)", "(2 0: --1*0)", "(2 0: 1-*0)", "(2 0: -*0)", "(-2 0: 1*0)", "(2 0: +1*0)")
        self.check_none("(2 0: -1*0 -1*-1)", "(2 0: -01*0)", "(-0 0: 1*0)", "(2 0: -0*0 1*1)", "(2 0: -+1*0)")

    def test_stars_and_colons(self):
        self.check_none("(2 0: 10)", "(2 0: 1**0)", "(2 0: 1:0)", "(2 0 1*0)", "(2 0:: 1*0)", "(2 0* 1*0)")
        self.check_none("(2 0: 1x0)", "(2 0; 1*0)", "(2 0: 1*0, 1*1)", "(2 0: 1*0*1)")

    def test_noughts_ahead(self):
        self.check_none("(02 0: 1*0)", "(2 00: 1*0)", "(2 01: 1*0)", "(2 0: 01*0)", "(2 0: 1*00)")
        self.check_none("(2 0: 1*0 1*01)", "(2 0: 1*0 1*(02 0: 1*1))", "(2 0: 1*0 1*(2 00: 1*1))")
        self.check_none("(2 0: 1*0 -01*1)", "(2 0: " + "0" * 31 + "1*0)", "(00 0: 1*0)")

    def test_figures_that_only_look_like_some(self):
        for sign in ("\u0662", "\u0968", "\uff12", "\u00b2", "\u2461", "\u4e8c", "\U0001d7d0", "a", "x", "e"):
            self.check_none(f"({sign} 0: 1*0)", f"(2{sign} 0: 1*0)", f"(2 {sign}: 1*0)", f"(2 1{sign}: 1*0)")
            self.check_none(f"(2 0: {sign}*0 1*1)", f"(2 0: 1{sign}*0 1*1)", f"(2 0: 1*0 1*{sign})")
            self.check_none(f"(2 0: 1*0 1*1{sign})")
        self.check_none("(\u0661\u0660 0: 1*0)", "(1_0 0: 1*0)", "(0x2 0: 1*0)", "(2.0 0: 1*0)", "(1e1 0: 1*0)")

    def test_what_follows(self):
        for more in (" ", "\n", "0", "x", ")", "(", "(2 0: 1*0)", " 1*1", "\x00", "#"):
            self.check_none("(2 0: 1*0)" + more)

    def test_other_writings(self):
        self.check_none("", " ", "\n", "plan", "None", "(2, 0, ((1, 0),))", repr(HALF), "-", "*", ":", "0", "1", "-1")


class NoPlanTest(TextsCase):
    """Texts that are written as they should be, but of what is no plan."""

    def check_values(self, *values):
        for value in values:
            self.assertIsNotNone(plan_error(value))
            self.check_none(plan_text(value))

    def test_an_input_alone(self):
        self.check_none("0", "1", "23", "24", "-1")

    def test_deep(self):
        self.check_both(tower(8), plan_text(tower(8)))
        self.check_values(tower(9), tower(10), tower(12), tower(13), (2, 0, ((1, 0), (1, tower(8, (2, 0, ((1, 1),)))))))

    def test_many_stages(self):
        self.check_both(row_of_stages(12), plan_text(row_of_stages(12)))
        self.check_values(row_of_stages(13), row_of_stages(20))
        self.check_values((2, 0, ((1, tower(7)), (1, tower(5, (2, 0, ((1, 1),)))))))

    def test_many_parts_and_inputs(self):
        full = (2, 0, tuple((1, at) for at in range(24)))
        self.check_both(full, plan_text(full))
        self.check_values((2, 0, tuple((1, at) for at in range(25))))
        self.check_values((2, 0, tuple((1, at % 24) for at in range(25))))
        halves = tuple((1, at) for at in range(12)), tuple((1, at) for at in range(12, 25))
        self.check_values((2, 0, ((1, (2, 0, halves[0])), (1, (2, 0, halves[1])))))
        self.check_values((2, 0, ((1, full), (1, 24))), (2, 0, ((1, full), (1, 0))))

    def test_no_parts(self):
        self.check_values((2, 0, ()), (2, 0, ((1, 0), (1, (2, 0, ())))))

    def test_divisors(self):
        for divisor in (0, -1, -2, GREAT + 1, 10 * GREAT, -GREAT):
            self.check_values((divisor, 0, ((1, 0),)), (2, 0, ((1, (divisor, 0, ((1, 0),))),)))

    def test_offsets(self):
        for divisor in (1, 2, 3, GREAT):
            for offset in (-1, divisor, divisor + 1, 10 * GREAT):
                self.check_values((divisor, offset, ((1, 0),)), (2, 0, ((1, (divisor, offset, ((1, 0),))),)))

    def test_weights(self):
        for weights in ((0,), (0, 1), (2,), (-2,), (2, 4), (-6, 9), (GREAT + 1, 1), (1, -GREAT - 1), (10 * GREAT, 1)):
            self.check_values((2, 0, tuple((weight, at) for at, weight in enumerate(weights))))

    def test_inputs(self):
        for things in ((1,), (0, 0), (0, 2), (1, 2), (0, 1, 1), (0, -1), (0, 24), (24,), (0, GREAT), (0, -GREAT)):
            self.check_values((2, 0, tuple((1, thing) for thing in things)))
        self.check_values((2, 0, ((1, (2, 0, ((1, 0), (1, 1)))), (1, (2, 0, ((1, 1), (1, 2)))))))


class LongTest(TextsCase):
    def test_thousands_of_figures(self):
        for many in (32, 100, 4299, 4300, 4301, 5000, 200000):
            for figures in ("1" * many, "9" * many, "0" * many, "-" + "1" * many):
                self.check_none(figures, f"({figures} 0: 1*0)", f"(2 {figures}: 1*0)")
                self.check_none(f"(2 0: {figures}*0 1*1)", f"(2 0: 1*0 1*{figures})", f"(2 0: 1*0){figures}")

    def test_thousands_of_brackets(self):
        for many in (9, 100, 1000, 5000, 100000):
            self.check_none("(" * many, ")" * many, "(2 0: 1*" * many, "(2 0: 1*" * many + "0" + ")" * many)
            self.check_none("(2 0: 1*" * many + "(2 0: 1*0)" + ")" * many, "(2 0: 1*0" + ")" * many)

    def test_thousands_of_parts(self):
        for many in (25, 1000, 5000, 50000):
            self.check_none("(2 0:" + " 1*0" * many + ")", "(2 0:" + " 1*(2 0: 1*0)" * many + ")")
            self.check_none("(2 0:" + " 1*0" * many, "(2 0: 1*(2 0:" + " 1*0" * many + "))")

    def test_other_long_texts(self):
        for sign in (" ", "\n", "-", "*", ":", "x", "1 ", "(2 0: 1*0)"):
            self.check_none(sign * 20000)


class KindsTest(TextsCase):
    def test_values_of_other_kinds(self):
        self.check_none(None, True, False, 0, 1, -1, 2, GREAT, 10 ** 399, b"", b"(2 0: 1*0)")
        self.check_none((), (1,), HALF, FULL, ("(2 0: 1*0)",), tuple("(2 0: 1*0)"), (2, 0, ((1, 0),)))
        self.check_none([], ["(2 0: 1*0)"], list("(2 0: 1*0)"), {}, {"(2 0: 1*0)": 1}, {1: "(2 0: 1*0)"})

    def test_what_the_package_raised(self):
        self.check_none(BadText(), BadLog("(2 0: 1*0)"), TooMany(4096), BadText("(2 0: 1*0)"))

    def test_deep_values(self):
        of_tuples, of_lists, of_dicts = (), [], {}
        for _ in range(100000):
            of_tuples, of_lists, of_dicts = (of_tuples,), [of_lists], {1: of_dicts}
        for value in (of_tuples, of_lists, of_dicts):
            self.assertRaises(BadText, read_plan, value)
            self.assertRaises(BadText, read_plan, value=value)

    def test_what_is_handed_in_stays(self):
        value = [1, ["(2 0: 1*0)", {}]]
        self.check_none(value)
        self.assert_same(value, [1, ["(2 0: 1*0)", {}]])

    def test_the_wide_one(self):
        self.check_both(WIDE, plan_text(WIDE))
        self.assertTrue(plan_text(WIDE).startswith("(7 3: 1*0 2*(1 0: 1*1) 3*(5 4: 1*2 -2*(6 1: 1*3)) 1*4 "))


class InterfaceTest(unittest.TestCase):
    def test_all_are_defined_in_their_own_file(self):
        for function in (plan_text, read_plan):
            self.assertEqual(function.__module__, "stagecuts.plantexts")


if __name__ == "__main__":
    unittest.main()
