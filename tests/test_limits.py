import unittest

from blockmoves import limits


class LimitsTest(unittest.TestCase):
    def test_values(self):
        wanted = {
            "MAX_SYMBOLS": 5, "MAX_FIELDS": 4, "MAX_ARRAYS": 3, "MAX_PARTS": 12, "MAX_DEPTH": 4,
            "MAX_STATEMENTS": 40, "MAX_MOVES": 5, "MAX_IFS": 4, "MAX_FACTS": 150, "MAX_KEPT": 8, "MAX_PREMISES": 5,
        }
        found = {name: value for name, value in vars(limits).items() if name.isupper()}
        self.assertEqual(found, wanted)
        for value in found.values():
            self.assertIs(value.__class__, int)


if __name__ == "__main__":
    unittest.main()
