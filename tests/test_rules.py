import unittest
from fractions import Fraction
from itertools import permutations, product

from samples import BIG, BIG_TEXT, CLEAN, OTHERS, RULE, SMALL, Always, check, damaged, nested, worth

from tracebounds.errors import InvalidTable, InvalidText, NotWorks, UnknownName
from tracebounds.rules import Rule
from tracebounds.works import Works

TABLE = (("bar", "bar", "-"), ("bar", "cake", "rinse"), ("roll", "bar", "scrub"), ("cake", "roll", "-"),
         ("cake", "bar", "scrub"))
TEXT = "rule mixer\nbar bar -\nbar cake rinse\nroll bar scrub\ncake roll -\ncake bar scrub"
PRODUCTS = ("bar", "cake", "roll")
PAIRS = tuple(product(PRODUCTS, PRODUCTS))
# Values that are no products of these works.
NO_PRODUCTS = OTHERS + (0, 1, "mixer", "rinse", "nuts", "-", "ba", "barr", "Bar", ("bar",), ["bar"], SMALL, RULE)
# Values with which no pair can be let.
NO_CLEANINGS = OTHERS + (0, 1, "mixer", "nuts", "bar", "--", "- ", " -", "rins", "Rinse", "", "none", ("-",), ["-"],
                         ("rinse",), SMALL)


def let_by(rule, products):
    return {(first, second): rule.cleaning(first, second) for first in products for second in products}


class Made(unittest.TestCase):
    def setUp(self):
        self.rule = Rule(BIG, "mixer", TABLE)

    def test_works_machine_and_table_as_they_were_passed(self):
        self.assertIs(self.rule.works, BIG)
        self.assertEqual(self.rule.machine, "mixer")
        self.assertIs(self.rule.table, TABLE)
        nothing = ()
        self.assertIs(Rule(SMALL, "mixer", nothing).table, nothing)

    def test_properties_cannot_be_assigned(self):
        for name in ("works", "machine", "table"):
            self.assertRaises(AttributeError, setattr, self.rule, name, ())

    def test_str(self):
        self.assertEqual(str(self.rule), TEXT)
        self.assertEqual(str(Rule(BIG, "oven", ())), "rule oven")
        self.assertEqual(str(Rule(BIG, "tub", (("roll", "roll", "-"),))), "rule tub\nroll roll -")

    def test_is_true(self):
        self.assertTrue(self.rule)
        self.assertTrue(Rule(BIG, "mixer", ()))

    def test_by_name(self):
        self.assertEqual(Rule(table=TABLE, machine="mixer", works=BIG), self.rule)
        self.assertEqual(Rule.read(text=TEXT, works=BIG), self.rule)
        self.assertEqual(self.rule.cleaning(second="cake", first="bar"), "rinse")
        self.assertEqual(self.rule.factor(second="cake", first="bar"), (1, 50))
        self.assertEqual(str(self.rule.changed(cleaning="-", second="cake", first="bar")), TEXT.replace("rinse", "-"))

    def test_all_machines(self):
        for machine in ("mixer", "oven", "belt", "pan", "tub", "box"):
            rule = Rule(BIG, machine, TABLE)
            self.assertEqual(rule.machine, machine)
            self.assertEqual(str(rule), TEXT.replace("mixer", machine))

    def test_all_pairs(self):
        names = tuple(f"p{letter}" for letter in "abcdefgh")
        works = Works((("mixer", 0, 0),), (), (("nuts", 0),), tuple((name, ((0, 0),)) for name in names))
        table = tuple((first, second, "-") for first in names for second in names)
        rule = Rule(works, "mixer", table)
        self.assertEqual(len(rule.table), 64)
        self.assertEqual(Rule.read(works, str(rule)), rule)
        self.assertEqual(set(let_by(rule, names).values()), {"-"})

    def test_cleaning(self):
        told = {(first, second): cleaning for first, second, cleaning in TABLE}
        for pair in PAIRS:
            self.assertEqual(self.rule.cleaning(*pair), told.get(pair))
            self.assertIsNone(Rule(BIG, "mixer", ()).cleaning(*pair))

    def test_names_like_the_words(self):
        works = Works((("rule", 0, 1000),), (("bar", 0, 500),), (("nuts", 0),), (("cake", ((0, 0),)),))
        rule = Rule.read(works, "rule rule\ncake cake bar")
        self.assertEqual((rule.machine, rule.table), ("rule", (("cake", "cake", "bar"),)))
        self.assertEqual(rule.factor("cake", "cake"), (1, 2))


class Factor(unittest.TestCase):
    def test_the_example(self):
        self.assertEqual(RULE.factor("bar", "cake"), (1, 50))

    def test_the_high_hold_times_the_high_keep(self):
        for hold in (0, 1, 7, 250, 333, 999, 1000):
            for keep in (0, 1, 8, 500, 777, 1000):
                works = Works(
                    (("oven", 0, 1), ("mixer", 0, hold)), (("wipe", 0, 1), ("rinse", 0, keep)), (("nuts", 0),),
                    (("bar", ((3, 5),)), ("cake", ((0, 0),))))
                rule = Rule(works, "mixer", (("bar", "cake", "rinse"), ("cake", "bar", "-"), ("bar", "bar", "wipe")))
                for pair, share in ((("bar", "cake"), keep), (("cake", "bar"), 1000), (("bar", "bar"), 1)):
                    self.assertEqual(worth(self, rule.factor(*pair)), Fraction(hold * share, 10 ** 6))
                self.assertIsNone(rule.factor("cake", "cake"))

    def test_the_low_ends_play_no_part(self):
        for hold, keep in (((0, 200), (0, 100)), ((200, 200), (100, 100)), ((1, 200), (50, 100))):
            works = Works((("mixer", *hold),), (("rinse", *keep),), (("nuts", 0),), (("bar", ((0, 0),)),))
            self.assertEqual(Rule(works, "mixer", (("bar", "bar", "rinse"),)).factor("bar", "bar"), (1, 50))
            self.assertEqual(Rule(works, "mixer", (("bar", "bar", "-"),)).factor("bar", "bar"), (1, 5))

    def test_none_if_it_is_not_let(self):
        rule = Rule(BIG, "pan", TABLE)
        for pair in PAIRS:
            self.assertEqual(rule.factor(*pair), None if rule.cleaning(*pair) is None else (0, 1))


class Equality(unittest.TestCase):
    def both(self, left, right, same):
        for one, other in ((left, right), (right, left)):
            self.assertIs(one == other, same)
            self.assertIs(one != other, not same)

    def test_whatever_the_order_of_the_table(self):
        rule = Rule(BIG, "mixer", TABLE)
        for table in permutations(TABLE):
            other = Rule(BIG, "mixer", table)
            self.both(rule, other, True)
            self.assertIs(other.table, table)
            self.assertEqual(str(other) == str(rule), table == TABLE)

    def test_works_that_are_equal(self):
        self.both(Rule(BIG, "mixer", TABLE), Rule(Works.read(BIG_TEXT), "mixer", tuple(list(TABLE))), True)
        self.both(RULE, RULE, True)
        self.both(Rule(SMALL, "mixer", ()), Rule.read(SMALL, "rule mixer"), True)

    def test_unequal(self):
        rule = Rule(BIG, "mixer", TABLE)
        others = [Rule(BIG, "oven", TABLE), Rule(BIG, "mixer", ())]
        others += [Rule(BIG, "mixer", TABLE + (("roll", "roll", "-"),))]
        others += [Rule(BIG, "mixer", TABLE[:at] + TABLE[at + 1:]) for at in range(len(TABLE))]
        for at, (first, second, cleaning) in enumerate(TABLE):
            for other in ("-", "rinse", "scrub"):
                if other != cleaning:
                    others.append(Rule(BIG, "mixer", TABLE[:at] + ((first, second, other),) + TABLE[at + 1:]))
        for change in (("mixer 100 200", "mixer 100 201"), ("nuts 30", "nuts 31"), ("scrub 5 6", "scrub 5 7")):
            others.append(Rule(Works.read(BIG_TEXT.replace(*change)), "mixer", TABLE))
        for other in others:
            self.both(rule, other, False)
        self.both(Rule(BIG, "mixer", (("bar", "cake", "-"),)), Rule(BIG, "mixer", (("cake", "bar", "-"),)), False)

    def test_unequal_to_values_of_other_classes(self):
        for rule in (RULE, Rule(SMALL, "mixer", ())):
            for other in OTHERS + (SMALL, CLEAN, str(rule), rule.table, rule.machine, 0, Always()):
                self.assertIs(rule == other, False)
                self.assertIs(rule != other, True)


class Changed(unittest.TestCase):
    def setUp(self):
        self.rule = Rule(BIG, "mixer", TABLE)

    def test_all_changes(self):
        for first, second in PAIRS:
            there = [row[:2] for row in TABLE]
            for cleaning in ("-", "rinse", "scrub", None):
                if cleaning is None:
                    table = [row for row in TABLE if row[:2] != (first, second)]
                elif (first, second) in there:
                    table = [(first, second, cleaning) if row[:2] == (first, second) else row for row in TABLE]
                else:
                    table = list(TABLE) + [(first, second, cleaning)]
                other = self.rule.changed(first, second, cleaning)
                self.assertIs(type(other), Rule)
                self.assertEqual(other.table, tuple(table))
                self.assertEqual((other.works, other.machine), (BIG, "mixer"))
                self.assertEqual(str(other), str(Rule(BIG, "mixer", tuple(table))))
                self.assertEqual(other.cleaning(first, second), cleaning)
                self.assertEqual(other, Rule(BIG, "mixer", tuple(table)))
            self.assertIs(self.rule.table, TABLE)
            self.assertEqual(str(self.rule), TEXT)
            self.assertEqual(let_by(self.rule, PRODUCTS), {pair: dict(zip(there, [row[2] for row in TABLE])).get(pair)
                                                           for pair in PAIRS})

    def test_one_behind_another(self):
        rule = RULE.changed("bar", "cake", None).changed("bar", "cake", "rinse")
        self.assertEqual(str(rule), "rule mixer\nbar bar -\ncake cake -\ncake bar -\nbar cake rinse")
        self.assertEqual(rule, RULE)
        self.assertEqual(RULE.changed("bar", "cake", "-").changed("bar", "cake", "rinse").table, RULE.table)
        nothing = RULE
        for first, second, _ in RULE.table:
            nothing = nothing.changed(first, second, None)
        self.assertEqual(nothing.table, ())
        self.assertEqual(nothing.changed("bar", "bar", None).table, ())

    def test_unknown_products(self):
        for given in NO_PRODUCTS:
            for cleaning in ("-", None, "x"):
                check(self, UnknownName, "given", given, self.rule.changed, given, "bar", cleaning)
                check(self, UnknownName, "given", given, self.rule.changed, given, "x", cleaning)
                check(self, UnknownName, "given", given, self.rule.changed, "bar", given, cleaning)
            check(self, UnknownName, "given", given, self.rule.changed, cleaning="x", second="x", first=given)

    def test_unknown_cleanings(self):
        for given in NO_CLEANINGS:
            if given is not None:
                check(self, UnknownName, "given", given, self.rule.changed, "bar", "cake", given)
                check(self, UnknownName, "given", given, self.rule.changed, "roll", "roll", given)
                check(self, UnknownName, "given", given, self.rule.changed, cleaning=given, second="cake", first="bar")
        check(self, UnknownName, "given", "scrub", RULE.changed, "bar", "cake", "scrub")
        self.assertEqual(str(self.rule), TEXT)


class UnknownProducts(unittest.TestCase):
    def test_cleaning_and_factor(self):
        rule = Rule(BIG, "mixer", TABLE)
        for call in (rule.cleaning, rule.factor, RULE.cleaning, RULE.factor):
            for given in NO_PRODUCTS:
                check(self, UnknownName, "given", given, call, given, "bar")
                check(self, UnknownName, "given", given, call, "bar", given)
                check(self, UnknownName, "given", given, call, given, "x")
                check(self, UnknownName, "given", given, call, second="x", first=given)
        check(self, UnknownName, "given", "roll", RULE.cleaning, "bar", "roll")
        check(self, UnknownName, "given", "roll", RULE.factor, "roll", "bar")


class Read(unittest.TestCase):
    def refused(self, text, works=BIG):
        check(self, InvalidText, "given", text, Rule.read, works, text)

    def test_what_was_read_has_this_text(self):
        for works, text in ((BIG, TEXT), (BIG, "rule tub"), (SMALL, str(RULE)), (BIG, "rule box\nroll roll -")):
            rule = Rule.read(works, text)
            self.assertIs(type(rule), Rule)
            self.assertEqual(str(rule), text)
            self.assertIs(rule.works, works)
            self.assertEqual(rule, Rule(works, rule.machine, rule.table))

    def test_the_rows_that_were_read(self):
        rule = Rule.read(BIG, TEXT)
        self.assertEqual((rule.machine, rule.table), ("mixer", TABLE))
        self.assertEqual(Rule.read(BIG, "rule oven").table, ())

    def test_no_strings(self):
        for text in OTHERS:
            self.refused(text)
        for text in (TEXT.encode(), TEXT.split("\n"), (TEXT,), TABLE, Rule(BIG, "mixer", TABLE), BIG):
            self.refused(text)

    def test_lines(self):
        for text in ("", "\n", " ", "\nrule mixer", "rule mixer\n", "rule mixer\n\nbar bar -", TEXT + "\n", "\n" + TEXT,
                     TEXT + "\n ", " " + TEXT, TEXT + " ", "\n".join(TEXT.split("\n")[1:]),
                     "\n".join(TEXT.split("\n")[::-1])):
            self.refused(text)

    def test_needless_and_other_signs_anywhere(self):
        for text in damaged(TEXT):
            self.refused(text)

    def test_words(self):
        for text in (
            "rule", "rule ", "mixer", "Rule mixer", "rules mixer", "run mixer", "rule mixer oven", "rule mixer mixer",
            "rule rule mixer", "mixer rule", "rule bar", "rule rinse", "rule nuts", "rule -", "rule nothing",
            "rule Mixer",
            "plan mixer", "rule mixer bar bar -",
        ):
            self.refused(text)
            self.refused(text + "\nbar bar -")
        for line in (
            "bar", "bar bar", "bar -", "-", "bar bar bar", "bar bar - -", "bar bar rinse -", "bar bar rinse scrub",
            "bar - bar", "- bar bar", "- - -", "bar bar --", "bar rinse bar", "rinse bar bar", "bar bar mixer",
            "bar bar nuts", "bar nuts -", "mixer bar -", "bar mixer rinse", "nothing bar -", "bar nothing -",
            "bar bar nothing", "bar bar None", "bar bar none", "Bar bar -", "rule mixer", "rule bar -", "bar bar bar -",
            "run bar mixer", "clean mixer rinse", "bar, bar -", "('bar', 'bar', '-')",
        ):
            self.refused("rule mixer\n" + line)
            self.refused("rule mixer\ncake cake -\n" + line + "\ncake roll -")
            if line != "rule mixer":
                self.refused(line)

    def test_a_pair_twice(self):
        for line in TEXT.split("\n")[1:]:
            self.refused(TEXT + "\n" + line)
            for other in ("-", "rinse", "scrub"):
                self.refused(TEXT + "\n" + " ".join(line.split(" ")[:2] + [other]))

    def test_names_of_other_works(self):
        self.refused("rule oven", SMALL)
        self.refused("rule mixer\nbar roll -", SMALL)
        self.refused("rule mixer\nbar bar scrub", SMALL)

    def test_not_works(self):
        for works in OTHERS + (str(SMALL), CLEAN, RULE, 0):
            for text in (TEXT, "", "\n", None, 0, []):
                check(self, NotWorks, "given", works, Rule.read, works, text)
        check(self, NotWorks, "given", None, Rule.read, text=None, works=None)


class Refused(unittest.TestCase):
    def refused(self, index, table, works=BIG):
        check(self, InvalidTable, "index", index, Rule, works, "mixer", table)

    def test_not_works(self):
        for works in OTHERS + (str(SMALL), CLEAN, RULE, 0):
            for machine, table in (("mixer", TABLE), (None, None), ("x", (None,))):
                check(self, NotWorks, "given", works, Rule, works, machine, table)
        check(self, NotWorks, "given", "x", Rule, table=None, machine=None, works="x")

    def test_unknown_machine(self):
        for machine in OTHERS + (0, 1, "bar", "rinse", "nuts", "-", "Mixer", ("mixer",), ["mixer"], SMALL):
            for table in (TABLE, (), None, (None,)):
                check(self, UnknownName, "given", machine, Rule, BIG, machine, table)
        check(self, UnknownName, "given", "oven", Rule, SMALL, "oven", ())
        check(self, UnknownName, "given", None, Rule, table=None, machine=None, works=BIG)

    def test_no_tuples(self):
        for table in OTHERS + (list(TABLE), [], TEXT, {row: 1 for row in TABLE}, {("bar", "bar"): "-"}, RULE, BIG, 0):
            if not isinstance(table, tuple):
                self.refused(None, table)
                check(self, InvalidTable, "index", None, Rule, table=table, machine="mixer", works=BIG)

    def everywhere(self, row):
        """This element is refused wherever it stands."""
        for at in range(len(TABLE) + 1):
            self.refused(at, TABLE[:at] + (row,) + TABLE[at:])

    def test_elements_of_any_kind_and_length(self):
        for row in OTHERS + (
            0, "bar bar -", ("bar",), ("bar", "bar"), ("roll", "roll", "-", "-"), ("roll", "roll", "-", None),
            ["roll", "roll", "-"], (("roll", "roll"), "-"), (("roll", "roll", "-"),), ("roll", ("roll", "-")),
        ):
            self.everywhere(row)

    def test_values_of_any_kind_in_each_place(self):
        for value in NO_PRODUCTS + (nested("roll", 3),):
            self.everywhere((value, "roll", "-"))
            self.everywhere(("roll", value, "-"))
        for value in NO_CLEANINGS + (nested("-", 3),):
            self.everywhere(("roll", "roll", value))

    def test_the_pair_of_an_earlier_one(self):
        for at, (first, second, _) in enumerate(TABLE):
            for cleaning in ("-", "rinse", "scrub"):
                for place in range(at + 1, len(TABLE) + 1):
                    self.refused(place, TABLE[:place] + ((first, second, cleaning),) + TABLE[place:])
        Rule(BIG, "mixer", (("bar", "cake", "-"), ("cake", "bar", "-")))

    def test_names_of_other_works(self):
        self.refused(1, (("bar", "bar", "-"), ("bar", "roll", "-")), SMALL)
        self.refused(0, (("bar", "bar", "scrub"),), SMALL)

    def test_the_first_index(self):
        self.refused(1, (("bar", "bar", "-"), None, ("bar", "bar", "-"), None))
        self.refused(1, (("bar", "bar", "-"), ("bar", "bar", "-"), None))
        self.refused(0, (("bar", "bar", []), None))

    def test_nothing_that_is_passed_is_changed(self):
        table = [["bar", "bar", "-"]]
        self.refused(None, table)
        self.refused(0, (table[0],))
        self.assertEqual(table, [["bar", "bar", "-"]])


if __name__ == "__main__":
    unittest.main()
