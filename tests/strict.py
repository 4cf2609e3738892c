"""What several test files share; it holds no tests of its own."""

import unittest
from fractions import Fraction
from itertools import product
from math import gcd

from stagecuts.errors import BadLog, BadPlan, TooMany, Unfit

HALF = (2, 0, ((1, 0), (1, 1)))
CHAIN = (2, 1, ((1, 0), (1, (2, 0, ((1, 1), (1, 2))))))
FOUR = (2, 1, ((1, (2, 0, ((1, 0), (1, 1)))), (1, (2, 0, ((1, 2), (1, 3))))))
BLEND = (4, 1, ((3, 0), (1, (2, 0, ((1, 1), (-1, 2))))))
LESS = (2, 0, ((1, 0), (-1, (3, 1, ((1, 1), (2, 2))))))
ADDED = (1, 0, ((2, 0), (1, (1, 0, ((1, 1), (3, 2))))))
GREAT = 10 ** 30
ONE = (GREAT, GREAT - 1, ((-1, 0),))
# Thirteen parts at the outermost stage, stages at the places 1, 2, 9, 10 and 12.
WIDE = (7, 3, (
    (1, 0), (2, (1, 0, ((1, 1),))), (3, (5, 4, ((1, 2), (-2, (6, 1, ((1, 3),)))))), (1, 4), (1, 5),
    (1, 6), (1, 7), (1, 8), (1, 9), (-1, (2, 1, ((1, 10),))),
    (1, (4, 2, ((1, (3, 2, ((1, 11),))), (1, 12)))), (5, 13), (GREAT, (9, 8, ((1, 14), (GREAT, 15)))),
))
WIDE_WAYS = ((), (1,), (2,), (2, 1), (9,), (10,), (10, 0), (12,))
# Inputs that do not stand in the order of their numbers.
MIXED = (3, 1, ((1, 3), (-4, (10, 9, ((1, 1), (1, (8, 0, ((3, 4), (5, 0))))))), (1, 2)))


def tower(many, inmost=(2, 0, ((1, 0),))):
    """Return many stages one within another, inmost being the last one of them."""
    stage = inmost
    for _ in range(many - 1):
        stage = (2, 0, ((1, stage),))
    return stage


def row_of_stages(many):
    """Return a plan of many stages: one, and all others side by side in it."""
    return (2, 0, tuple((1, (2, 0, ((1, at),))) for at in range(many - 1)))


def full_plan():
    """Return a plan that reaches all bounds: eight deep, twelve stages, 24 inputs."""
    stage = (GREAT, GREAT - 1, ((GREAT, 23), (1 - GREAT, 0), (GREAT, 22)))
    for at in range(6):
        weights = (-1) ** at * (GREAT - at), GREAT - at - 1
        stage = (GREAT - at, at * GREAT // 7, ((weights[0], stage), (weights[1], at + 1)))
    parts = [(1 - GREAT, stage), (GREAT, 21)]
    for at in range(4):
        first = 7 + 3 * at
        inner = ((GREAT, first), (-GREAT, first + 1), (1 - GREAT, first + 2), (1, 19 + at))
        parts.append(((-GREAT) ** (at % 2), (GREAT, at, inner[:4 if at < 2 else 3])))
    return (GREAT, GREAT // 3, tuple(parts))


FULL = full_plan()
PLANS = (
    HALF, CHAIN, FOUR, BLEND, LESS, ADDED, ONE, WIDE, MIXED, tower(8), row_of_stages(12), FULL,
    # Stages one within another by weights below 0, and side by side beneath one of them.
    (5, 4, ((-3, (4, 1, ((-1, (7, 6, ((-2, 3), (3, 0)))), (2, 1)))), (1, (1, 0, ((-1, 2),))))),
    (3, 1, ((2, (2, 1, ((1, (2, 0, ((-1, 2),))), (-3, (3, 2, ((1, 1),))))),), (-1, 0))),
    (6, 5, ((-1, 0),)), (1, 0, ((1, 0),)), (1, 0, ((5, 0), (-4, 1))),
)
# Plans of few rests, by weights of both signs, shares of all sizes, and divisors 1.
SMALL = (
    HALF, CHAIN, FOUR, BLEND, LESS, ADDED, (3, 0, ((1, 0),)), (6, 5, ((-1, 0),)), (1, 0, ((1, 0),)),
    (2, 0, ((2, (2, 0, ((1, 0),))), (1, 1))), (1, 0, ((3, (4, 0, ((1, 0),))), (1, 1))),
    (1, 0, ((-3, (4, 0, ((1, 0),))), (1, 1))), (1, 0, ((5, 0), (-4, (1, 0, ((-1, 1),))))),
    (2, 0, ((-1, (3, 0, ((1, 0), (-1, (2, 0, ((-1, 1),)))))),)),
    (3, 0, ((-2, (2, 0, ((1, 0),))), (-3, (2, 0, ((-1, 1),))))),
    (2, 1, ((-1, (1, 0, ((7, (3, 1, ((1, 0),))), (-2, 1)))),)),
)
# Values of all kinds that are no integers, and no tuples that anything asks for.
NO_INTEGERS = (
    None, True, False, "", "1", "one", "many\nlines", (), (1,), (1, 0), (None,), ((),), [], [1], [[]], {}, {1: 1},
    {(1, "a"): [None]}, {"one": ((0, 1), (1, 2))}, Unfit(), TooMany(1), BadPlan(("form", ())), BadLog(0),
    ("x",) * 4000, "x" * 20000,
)


class Dice:
    """Numbers that look thrown, the same ones at each run."""

    def __init__(self, begin):
        self.state = begin

    def below(self, many):
        self.state = (self.state * 6364136223846793005 + 1442695040888963407) % 2 ** 64
        return (self.state >> 33) * many >> 31

    def pick(self, items):
        return items[self.below(len(items))]

    def mixed(self, items):
        left = list(items)
        return [left.pop(self.below(len(left))) for _ in items]


def thrown_plan(dice, stages, inputs, divisors, weights):
    """Return a plan of so many stages, and as many inputs or more, by these divisors and weights."""
    beneath, depths = [[] for _ in range(stages)], [0]
    for at in range(1, stages):
        above = dice.pick([number for number in range(at) if depths[number] < 7])
        beneath[above].append(at)
        depths.append(depths[above] + 1)
    leaves = [at for at in range(stages) if not beneath[at]]
    homes = leaves + [dice.below(stages) for _ in range(inputs - len(leaves))]
    for number, home in zip(dice.mixed(range(len(homes))), homes):
        beneath[home].append((number,))

    def made(at):
        things = [thing[0] if isinstance(thing, tuple) else made(thing) for thing in dice.mixed(beneath[at])]
        taken = [dice.pick(weights) for _ in things]
        if gcd(*taken) != 1:
            taken[dice.below(len(taken))] = dice.pick((1, -1))
        divisor = dice.pick(divisors)
        return (divisor, dice.below(divisor), tuple(zip(taken, things)))

    return made(0)


def divisors_of(plan):
    """Return the divisors in order, by a way of its own through the plan."""
    found = [plan[0]]
    for _, thing in plan[2]:
        if isinstance(thing, tuple):
            found += divisors_of(thing)
    return found


def inputs_in(thing):
    """Return a list of the inputs in thing, by a way of its own."""
    if isinstance(thing, int):
        return [thing]
    return [number for _, beneath in thing[2] for number in inputs_in(beneath)]


def moving_by(thing, number):
    """Return the product of the divisors of the stages that have this input, 0 if none has."""
    if isinstance(thing, int):
        return int(thing == number)
    return thing[0] * sum(moving_by(beneath, number) for _, beneath in thing[2])


def all_rows(plan):
    """Return rows by which all rests come that come at all ([B5])."""
    many = len(inputs_in(plan))
    return product(*(range(moving_by(plan, at)) for at in range(many)))


def numbers(many, size, begin=1):
    """Return a tuple of many integers of both signs, from -size to size."""
    found = []
    for _ in range(many):
        begin = begin * 6364136223846793005 ** 5 % (2 ** 521 - 1)
        found.append(begin % (2 * size + 1) - size)
    return tuple(found)


def spread_by_stages(thing, share=Fraction(1)):
    """Return what thing and all beneath it add to the spread, by Fractions."""
    if isinstance(thing, int):
        return Fraction(0)
    divisor, _, parts = thing
    beneath = [spread_by_stages(part, share * weight / divisor) for weight, part in parts]
    return abs(share) * (1 - Fraction(1, divisor)) + sum(beneath)


def spoilt(value):
    """Return values that are not built as value is: of other kinds, too short or too long."""
    if isinstance(value, str):
        return [value.upper(), value + " ", " " + value, value[1:], value[:-1], "", value.encode(), None, (value,), 1]
    if isinstance(value, int):
        found = [str(value), None, (value,), [value], (value, 1), {value: value}]
        return found + [bool(value)] if value in (0, 1) else found
    found = [list(value), value + (0,), value + value[-1:], value[:-1], value[1:], (value,), [value], None, 0, True]
    found += [dict(enumerate(value)), (), value + (None,), repr(value)]
    for at, item in enumerate(value):
        found += [value[:at] + (other,) + value[at + 1:] for other in spoilt(item)]
    return found


def worth(pair):
    """Return a pair as a Fraction of Python, having seen that it is one in least terms."""
    assert type(pair) is tuple and [type(item) for item in pair] == [int, int], pair
    found = Fraction(*pair)
    assert (found.numerator, found.denominator) == pair, pair
    return found


def pair_of(number):
    """Return an integer or a Fraction of Python as a pair in least terms."""
    number = Fraction(number)
    return (number.numerator, number.denominator)


def run(thing, row):
    """Return what thing tells, its rests in order and its exact value, by Fractions."""
    if isinstance(thing, int):
        return row[thing], (), Fraction(row[thing])
    divisor, offset, parts = thing
    found = [run(beneath, row) for _, beneath in parts]
    weights = [weight for weight, _ in parts]
    by_whole = sum(weight * told for weight, (told, _, _) in zip(weights, found)) + offset
    exact = sum(weight * told for weight, (_, _, told) in zip(weights, found)) / divisor
    told = by_whole // divisor
    rests = sum((beneath for _, beneath, _ in found), ())
    return told, (by_whole - divisor * told,) + rests, exact


def told(thing, row):
    """Return what thing tells, as run does, but without all else."""
    if isinstance(thing, int):
        return row[thing]
    divisor, offset, parts = thing
    return (sum(weight * told(beneath, row) for weight, beneath in parts) + offset) // divisor


class StrictCase(unittest.TestCase):
    def assert_same(self, found, wanted):
        """For == True is 1; as they are written they differ, lists and tuples too."""
        self.assertEqual(repr(found), repr(wanted))

    def told_alike(self, function, arguments):
        """Call by place and by name, twice each; what is handed in has to stay."""
        written = repr(arguments)
        wanted = function(*arguments.values())
        for _ in range(2):
            self.assert_same(function(*arguments.values()), wanted)
            self.assert_same(function(**arguments), wanted)
            turned = dict(reversed(list(arguments.items())))
            self.assert_same(function(**turned), wanted)
        self.assertEqual(repr(arguments), written)
        return wanted

    def assert_tells(self, function, arguments, wanted):
        """Call by place and by name, as told_alike does: wanted has to be told."""
        self.assert_same(self.told_alike(function, arguments), wanted)

    def assert_refuses(self, function, arguments, kind, held):
        """Call by place and by name, twice each: kind has to be raised, holding held."""
        written = repr(arguments)
        turned = dict(reversed(list(arguments.items())))
        for _ in range(2):
            for by_place, by_name in ((tuple(arguments.values()), {}), ((), arguments), ((), turned)):
                with self.assertRaises(kind) as caught:
                    function(*by_place, **by_name)
                self.assertIs(type(caught.exception), kind)
                self.assert_same(vars(caught.exception), held)
        self.assertEqual(repr(arguments), written)
