import unittest

from tracebounds.basics import is_index, is_integer, is_name, read_number


class Basics(unittest.TestCase):
    def test_integers(self):
        for value in (0, 1, -1, 10 ** 400, -10 ** 400):
            self.assertIs(is_integer(value), True)
        for value in (True, False, None, "1", b"1", (1,), [1], {}, object(), int):
            self.assertIs(is_integer(value), False)

    def test_indexes(self):
        for many in (0, 1, 2, 20):
            for value in (-1, 0, 1, 2, 19, 20, 21, -20, 10 ** 400, -10 ** 400):
                self.assertIs(is_index(value, many), 0 <= value < many)
            for value in (True, False, None, "0", b"0", (0,), [0], {}, object(), int):
                self.assertIs(is_index(value, many), False)

    def test_names(self):
        for value in ("a", "z", "az", "abcdefgh", "stuvwxyz"):
            self.assertIs(is_name(value), True)
        for value in ("", "abcdefghi", "A", "aB", "a1", "a b", "a\n", "\n", "\u00e9", "a" * 10 ** 5,
                      None, 1, True, b"a", ("a",), ["a"], {"a": 1}, object(), str):
            self.assertIs(is_name(value), False)

    def test_numbers(self):
        for value in (0, 1, 9, 10, 100, 1234567890, 10 ** 399):
            self.assertEqual(read_number(str(value)), value)
        for word in ("", "00", "01", "-1", "+1", " 1", "1 ", "1_0", "0x1", "a", "\u0661", "\u00b2", "1\n"):
            self.assertIsNone(read_number(word))

    def test_long_numbers(self):
        """Those that Python refuses to read are no numbers, and raise no error."""
        self.assertEqual(read_number("9" * 4000), 10 ** 4000 - 1)
        for word in ("9" * 4001, "9" * 5000, "9" * 10 ** 6):
            self.assertIsNone(read_number(word))


if __name__ == "__main__":
    unittest.main()
