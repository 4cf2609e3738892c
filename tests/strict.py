"""What several test files share; it holds no tests of its own."""

import unittest

HALF = (2, 0, ((1, 0), (1, 1)))
CHAIN = (2, 1, ((1, 0), (1, (2, 0, ((1, 1), (1, 2))))))
FOUR = (2, 1, ((1, (2, 0, ((1, 0), (1, 1)))), (1, (2, 0, ((1, 2), (1, 3))))))
GREAT = 10 ** 30


def tower(many, inmost=(2, 0, ((1, 0),))):
    """Return many stages one within another, inmost being the last one of them."""
    stage = inmost
    for _ in range(many - 1):
        stage = (2, 0, ((1, stage),))
    return stage


def row_of_stages(many):
    """Return a plan of many stages: one, and all others side by side in it."""
    return (2, 0, tuple((1, (2, 0, ((1, at),))) for at in range(many - 1)))


class StrictCase(unittest.TestCase):
    def assert_same(self, found, wanted):
        """For == True is 1; as they are written they differ, lists and tuples too."""
        self.assertEqual(repr(found), repr(wanted))

    def assert_tells(self, function, arguments, wanted):
        """Call by place and by name, twice each; what is handed in has to stay."""
        written = repr(arguments)
        for _ in range(2):
            self.assert_same(function(*arguments.values()), wanted)
            self.assert_same(function(**arguments), wanted)
        self.assertEqual(repr(arguments), written)
