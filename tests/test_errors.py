import unittest

from tracebounds import errors

WITH_GIVEN = (
    "InvalidText", "InvalidLot", "InvalidBound", "InvalidName", "InvalidClaim", "InvalidIndex",
    "InvalidOther", "InvalidLine", "NotWorks", "NotAPlan", "NotARule", "NotAPart",
)
WITH_INDEX = (
    "InvalidMachines", "InvalidCleanings", "InvalidStuffs", "InvalidProducts", "InvalidDeeds",
    "InvalidTable", "InvalidRow", "InvalidChanges", "InvalidOrdered",
)
# Each class with the attribute that it is made with, and with its base.
MADE = (
    [(name, "given", "WrongValue") for name in WITH_GIVEN]
    + [(name, "index", "WrongValue") for name in WITH_INDEX]
    + [("UnknownName", "given", "WrongName"), ("Broken", "index", "NoAnswer"), ("InUse", "index", "NoAnswer")]
)
ROOTS = {"WrongValue": ValueError, "WrongName": LookupError, "NoAnswer": ArithmeticError}
VALUES = (None, True, False, 0, -1, 10 ** 400, "", "nuts", b"x", (), (1, "a"), [], [1, [2]], {}, {"a": []},
          {1}, object(), ValueError("x"), len, int)


class Errors(unittest.TestCase):
    def test_keep_what_they_are_made_with_by_position(self):
        for name, attribute, _ in MADE:
            for worth in VALUES:
                error = getattr(errors, name)(worth)
                self.assertIs(getattr(error, attribute), worth, name)

    def test_keep_what_they_are_made_with_by_name(self):
        for name, attribute, _ in MADE:
            for worth in VALUES:
                error = getattr(errors, name)(**{attribute: worth})
                self.assertIs(getattr(error, attribute), worth, name)

    def test_keep_it_when_raised(self):
        for name, attribute, base in MADE:
            with self.assertRaises(getattr(errors, base)) as caught:
                raise getattr(errors, name)([name])
            self.assertEqual(getattr(caught.exception, attribute), [name])

    def test_need_their_attribute_and_nothing_else(self):
        for name, attribute, _ in MADE:
            made = getattr(errors, name)
            other = "index" if attribute == "given" else "given"
            self.assertRaises(TypeError, made)
            self.assertRaises(TypeError, made, 1, 2)
            self.assertRaises(TypeError, made, **{other: 1})

    def test_nothing_to_undo_takes_none(self):
        self.assertIs(type(errors.NothingToUndo()), errors.NothingToUndo)
        self.assertRaises(TypeError, errors.NothingToUndo, 1)
        self.assertRaises(TypeError, errors.NothingToUndo, index=1)
        self.assertRaises(TypeError, errors.NothingToUndo, given=1)

    def test_bases_are_those_listed_and_no_others(self):
        for name, _, base in MADE + [("NothingToUndo", None, "NoAnswer")]:
            self.assertEqual(getattr(errors, name).__bases__, (getattr(errors, base),), name)
        for name, base in ROOTS.items():
            self.assertEqual(getattr(errors, name).__bases__, (base,), name)

    def test_no_class_stands_under_another_root(self):
        for name, _, base in MADE + [("NothingToUndo", None, "NoAnswer")]:
            for root, python_base in ROOTS.items():
                self.assertEqual(issubclass(getattr(errors, name), getattr(errors, root)), root == base)
                self.assertEqual(issubclass(getattr(errors, name), python_base), root == base)

    def test_there_are_no_other_classes(self):
        classes = {name for name, worth in vars(errors).items() if isinstance(worth, type)}
        told = {name for name, _, _ in MADE} | set(ROOTS) | {"NothingToUndo"}
        self.assertEqual(classes, told)


if __name__ == "__main__":
    unittest.main()
