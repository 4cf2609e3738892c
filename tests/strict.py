"""What several test files share; it holds no tests of its own."""

import unittest
from fractions import Fraction

HALF = (2, 0, ((1, 0), (1, 1)))
CHAIN = (2, 1, ((1, 0), (1, (2, 0, ((1, 1), (1, 2))))))
FOUR = (2, 1, ((1, (2, 0, ((1, 0), (1, 1)))), (1, (2, 0, ((1, 2), (1, 3))))))
BLEND = (4, 1, ((3, 0), (1, (2, 0, ((1, 1), (-1, 2))))))
LESS = (2, 0, ((1, 0), (-1, (3, 1, ((1, 1), (2, 2))))))
ADDED = (1, 0, ((2, 0), (1, (1, 0, ((1, 1), (3, 2))))))
GREAT = 10 ** 30
ONE = (GREAT, GREAT - 1, ((-1, 0),))
# Thirteen parts at the outermost stage, stages at the places 1, 2, 9, 10 and 12.
WIDE = (7, 3, (
    (1, 0), (2, (1, 0, ((1, 1),))), (3, (5, 4, ((1, 2), (-2, (6, 1, ((1, 3),)))))), (1, 4), (1, 5),
    (1, 6), (1, 7), (1, 8), (1, 9), (-1, (2, 1, ((1, 10),))),
    (1, (4, 2, ((1, (3, 2, ((1, 11),))), (1, 12)))), (5, 13), (GREAT, (9, 8, ((1, 14), (GREAT, 15)))),
))
WIDE_WAYS = ((), (1,), (2,), (2, 1), (9,), (10,), (10, 0), (12,))
# Inputs that do not stand in the order of their numbers.
MIXED = (3, 1, ((1, 3), (-4, (10, 9, ((1, 1), (1, (8, 0, ((3, 4), (5, 0))))))), (1, 2)))


def tower(many, inmost=(2, 0, ((1, 0),))):
    """Return many stages one within another, inmost being the last one of them."""
    stage = inmost
    for _ in range(many - 1):
        stage = (2, 0, ((1, stage),))
    return stage


def row_of_stages(many):
    """Return a plan of many stages: one, and all others side by side in it."""
    return (2, 0, tuple((1, (2, 0, ((1, at),))) for at in range(many - 1)))


def full_plan():
    """Return a plan that reaches all bounds: eight deep, twelve stages, 24 inputs."""
    stage = (GREAT, GREAT - 1, ((GREAT, 23), (1 - GREAT, 0), (GREAT, 22)))
    for at in range(6):
        weights = (-1) ** at * (GREAT - at), GREAT - at - 1
        stage = (GREAT - at, at * GREAT // 7, ((weights[0], stage), (weights[1], at + 1)))
    parts = [(1 - GREAT, stage), (GREAT, 21)]
    for at in range(4):
        first = 7 + 3 * at
        inner = ((GREAT, first), (-GREAT, first + 1), (1 - GREAT, first + 2), (1, 19 + at))
        parts.append(((-GREAT) ** (at % 2), (GREAT, at, inner[:4 if at < 2 else 3])))
    return (GREAT, GREAT // 3, tuple(parts))


FULL = full_plan()
PLANS = (
    HALF, CHAIN, FOUR, BLEND, LESS, ADDED, ONE, WIDE, MIXED, tower(8), row_of_stages(12), FULL,
    # Stages one within another by weights below 0, and side by side beneath one of them.
    (5, 4, ((-3, (4, 1, ((-1, (7, 6, ((-2, 3), (3, 0)))), (2, 1)))), (1, (1, 0, ((-1, 2),))))),
    (3, 1, ((2, (2, 1, ((1, (2, 0, ((-1, 2),))), (-3, (3, 2, ((1, 1),))))),), (-1, 0))),
    (6, 5, ((-1, 0),)), (1, 0, ((1, 0),)), (1, 0, ((5, 0), (-4, 1))),
)


def divisors_of(plan):
    """Return the divisors in order, by a way of its own through the plan."""
    found = [plan[0]]
    for _, thing in plan[2]:
        if isinstance(thing, tuple):
            found += divisors_of(thing)
    return found


def moving_by(thing, number):
    """Return the product of the divisors of the stages that have this input, 0 if none has."""
    if isinstance(thing, int):
        return int(thing == number)
    return thing[0] * sum(moving_by(beneath, number) for _, beneath in thing[2])


def numbers(many, size, begin=1):
    """Return a tuple of many integers of both signs, from -size to size."""
    found = []
    for _ in range(many):
        begin = begin * 6364136223846793005 ** 5 % (2 ** 521 - 1)
        found.append(begin % (2 * size + 1) - size)
    return tuple(found)


def worth(pair):
    """Return a pair as a Fraction of Python, having seen that it is one in least terms."""
    assert type(pair) is tuple and [type(item) for item in pair] == [int, int], pair
    found = Fraction(*pair)
    assert (found.numerator, found.denominator) == pair, pair
    return found


def pair_of(number):
    """Return an integer or a Fraction of Python as a pair in least terms."""
    number = Fraction(number)
    return (number.numerator, number.denominator)


def run(thing, row):
    """Return what thing tells, its rests in order and its exact value, by Fractions."""
    if isinstance(thing, int):
        return row[thing], (), Fraction(row[thing])
    divisor, offset, parts = thing
    found = [run(beneath, row) for _, beneath in parts]
    weights = [weight for weight, _ in parts]
    by_whole = sum(weight * told for weight, (told, _, _) in zip(weights, found)) + offset
    exact = sum(weight * told for weight, (_, _, told) in zip(weights, found)) / divisor
    told = by_whole // divisor
    rests = sum((beneath for _, beneath, _ in found), ())
    return told, (by_whole - divisor * told,) + rests, exact


class StrictCase(unittest.TestCase):
    def assert_same(self, found, wanted):
        """For == True is 1; as they are written they differ, lists and tuples too."""
        self.assertEqual(repr(found), repr(wanted))

    def assert_tells(self, function, arguments, wanted):
        """Call by place and by name, twice each; what is handed in has to stay."""
        written = repr(arguments)
        for _ in range(2):
            self.assert_same(function(*arguments.values()), wanted)
            self.assert_same(function(**arguments), wanted)
            turned = dict(reversed(list(arguments.items())))
            self.assert_same(function(**turned), wanted)
        self.assertEqual(repr(arguments), written)

    def assert_refuses(self, function, arguments, kind, held):
        """Call by place and by name, twice each: kind has to be raised, holding held."""
        for _ in range(2):
            for by_place, by_name in ((tuple(arguments.values()), {}), ((), arguments)):
                with self.assertRaises(kind) as caught:
                    function(*by_place, **by_name)
                self.assertIs(type(caught.exception), kind)
                self.assert_same(vars(caught.exception), held)
