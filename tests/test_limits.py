import unittest

from tracebounds import limits


class Limits(unittest.TestCase):
    def test_all_values(self):
        told = {name: worth for name, worth in vars(limits).items() if name.startswith("MOST_")}
        self.assertEqual(told, {
            "MOST_MACHINES": 6,
            "MOST_CLEANINGS": 6,
            "MOST_STUFFS": 3,
            "MOST_PRODUCTS": 8,
            "MOST_SHARE": 1000,
            "MOST_AMOUNT": 1000000000000,
            "MOST_DEEDS": 20,
            "MOST_LOTS": 8,
            "MOST_PASSED": 4,
            "MOST_ROW": 24,
            "MOST_CHANGES": 6,
            "MOST_ORDERED": 6,
            "MOST_CLAIMED": 10000000000000,
        })

    def test_all_are_integers(self):
        for name, worth in vars(limits).items():
            if name.startswith("MOST_"):
                self.assertIs(type(worth), int, name)


if __name__ == "__main__":
    unittest.main()
