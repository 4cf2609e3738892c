import unittest

from strict import StrictCase

from stagecuts import bounds


class BoundsTest(StrictCase):
    def test_each_bound_is_its_number(self):
        self.assert_same(bounds.MAX_SIZE, 1000000000000000000000000000000)
        self.assert_same(bounds.MAX_PARTS, 24)
        self.assert_same(bounds.MAX_INPUTS, 24)
        self.assert_same(bounds.MAX_STAGES, 12)
        self.assert_same(bounds.MAX_DEEP, 8)
        self.assert_same(bounds.MAX_SETS, 4096)
        self.assert_same(bounds.MAX_EDITS, 40)


if __name__ == "__main__":
    unittest.main()
