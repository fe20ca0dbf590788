"""Point 5: LIMIT and clip."""

import unittest

from stillinstep.clipping import LIMIT, clip


class Clipping(unittest.TestCase):
    def test_limit(self):
        self.assertEqual(LIMIT, 1000000000000)
        self.assertIs(type(LIMIT), int)

    def test_inside(self):
        for number in (0, 1, -1, 17, -17, LIMIT - 1, 1 - LIMIT, LIMIT, -LIMIT):
            self.assertEqual(clip(number), number)

    def test_beyond(self):
        for beyond in (1, 2, LIMIT, LIMIT ** 5):
            self.assertEqual(clip(LIMIT + beyond), LIMIT)
            self.assertEqual(clip(-LIMIT - beyond), -LIMIT)

    def test_by_name(self):
        self.assertEqual(clip(number=3), 3)


if __name__ == "__main__":
    unittest.main()
