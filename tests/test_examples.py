"""The examples of the document, as they stand there."""

import doctest
import unittest

PLANS = """
    >>> from stagecuts.plans import inputs_of, offsets_of, plan_error, stages_of, with_offsets
    >>> half, chain = (2, 0, ((1, 0), (1, 1))), (2, 1, ((1, 0), (1, (2, 0, ((1, 1), (1, 2))))))
    >>> four = (2, 1, ((1, (2, 0, ((1, 0), (1, 1)))), (1, (2, 0, ((1, 2), (1, 3))))))
    >>> [plan_error(value) for value in (half, chain, four, 0, (2, 0, ()), [2, 0, ((1, 0),)], (0, 0, ((1, 0),)), (2, 2, ((1, 0),)), (2, 0, ((2, 0), (4, 1))), (2, 0, ((True, 0),)))]
    [None, None, None, ('form', ()), ('form', ()), ('form', ()), ('divisor', ()), ('offset', ()), ('weights', ()), ('weights', ())]
    >>> [plan_error((2, 0, ((1, 0), (1, thing)))) for thing in (1, 0, 2, 24, (3, 3, ((1, 1),)), (3, 0, ((1, 1), 2)), (1, 0, ((-1, 1),)))]
    [None, 'inputs', 'inputs', ('form', (1,)), ('offset', (1,)), ('form', (1,)), None]
    >>> stages_of(four), inputs_of(four), offsets_of(four), offsets_of(with_offsets(four, (0, 1, 0))), with_offsets(half, (1,))
    (((), (0,), (1,)), 4, (1, 0, 0), (0, 1, 0), (2, 1, ((1, 0), (1, 1))))
"""


class ExamplesTest(unittest.TestCase):
    def check(self, text, many):
        test = doctest.DocTestParser().get_doctest(text, {}, "DOC.md", None, 0)
        self.assertEqual(len(test.examples), many)
        written = []
        failed, tried = doctest.DocTestRunner(verbose=False).run(test, out=written.append)
        self.assertEqual((failed, tried), (0, many), "".join(written))

    def test_plans(self):
        self.check(PLANS, 6)


if __name__ == "__main__":
    unittest.main()
