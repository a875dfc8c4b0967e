"""The values of the bounds."""

import unittest

from fromwithin import bounds


class BoundsTest(unittest.TestCase):
    def test_values(self):
        expected = {
            "MAX_ROOMS": 8,
            "MAX_PEOPLE": 12,
            "MAX_PLAN": 4000,
            "MAX_COUNT": 10 ** 12,
            "MAX_ACTIONS": 60,
            "MAX_BATCH": 20,
        }
        found = {name: value for name, value in vars(bounds).items() if name.startswith("MAX_")}
        self.assertEqual(found, expected)
        for value in found.values():
            self.assertIs(type(value), int)


if __name__ == "__main__":
    unittest.main()
