import math
import random
import unittest
from fractions import Fraction
from itertools import combinations, permutations

from samples import CLEAN, OTHERS, RULE, SMALL, check, nested, worth
from ways import all_ever, greatest_rule, keeps, let_go, names_of, plan_of, some_rules, stuffs_of, with_works

from tracebounds.amounts import greatest
from tracebounds.errors import InvalidChanges, InvalidOrdered, NotARule, UnknownName
from tracebounds.ever import first_above
from tracebounds.mending import best_order, easier, mends, weakest
from tracebounds.rules import Rule

LOOSE = RULE.changed("bar", "cake", "-")
NO_RULES = OTHERS + (0, CLEAN, SMALL, str(RULE), RULE.table)
NO_PRODUCTS = OTHERS + (0, 1, "mixer", "rinse", "nuts", "-", "roll", "Bar", ("bar",), ["bar"], nested("bar", 3))
RULES = some_rules(90, 3)


def allowing(rule, most):
    """The same rule with these limits."""
    return with_works(rule, stuffs=tuple((name, most) for name, _ in rule.works.stuffs))


def needed(rule):
    """The greatest amount ever of what is not declared, or None without end: the least limit that is kept."""
    amounts = [let_go(rule, name, stuff, all_ever(rule, name, stuff)) for name in names_of(rule)
               for stuff in stuffs_of(rule) if not rule.works.declares(name, stuff)]
    return None if None in amounts else max([0] + amounts)


def near(rules):
    """These rules with limits that they keep just so, with some room, or not quite."""
    found = []
    for at, rule in enumerate(rules):
        most = needed(rule)
        whole = 50 if most is None else math.ceil(most)
        found.append(allowing(rule, max(0, (whole, whole + 20, whole - 1, 3 * whole)[at % 4])))
    return found


NEAR = near(RULES)


class Examples(unittest.TestCase):
    def test_all(self):
        changes = (("bar", "cake", "rinse"), ("bar", "cake", None), ("cake", "bar", None))
        self.assertEqual([easier(RULE), weakest(RULE, "rinse"), mends(LOOSE, changes)], [(), 133, ((0,), (1,))])
        self.assertEqual(
            [best_order(RULE, ("bar", "cake", "cake"), "nuts"),
             best_order(RULE.changed("cake", "bar", None), ("cake", "bar"), "nuts")],
            [((0, 1), ("cake", "cake", "bar")), ((18, 1), ("bar", "cake"))])

    def test_by_name(self):
        self.assertEqual(easier(rule=RULE), ())
        self.assertEqual(weakest(cleaning="rinse", rule=RULE), 133)
        self.assertEqual(mends(changes=(("bar", "cake", "rinse"),), rule=LOOSE), ((0,),))
        self.assertEqual(best_order(stuff="nuts", ordered=("bar", "bar"), rule=RULE), ((0, 1), ("bar", "bar")))


class Easier(unittest.TestCase):
    def test_against_all_changes(self):
        some = 0
        for rule in NEAR:
            kept = {name: high for name, _, high in rule.works.cleanings}
            kept["-"] = 1000
            wanted = []
            for first, second, cleaning in rule.table:
                for other in [row[0] for row in rule.works.cleanings] + ["-"]:
                    if keeps(rule) and kept[other] > kept[cleaning] and keeps(rule.changed(first, second, other)):
                        wanted.append((first, second, other))
            self.assertEqual(easier(rule), tuple(wanted), str(rule))
            some += bool(wanted)
        self.assertGreater(some, 10)

    def test_the_order_of_the_table_then_of_the_cleanings(self):
        cleanings = (("much", 0, 900), ("rinse", 0, 10), ("some", 0, 300), ("more", 0, 1000), ("same", 0, 300))
        rule = allowing(with_works(RULE, cleanings=cleanings), 10 ** 12).changed("bar", "bar", "some")
        rule = Rule(rule.works, "mixer", rule.table[::-1])
        self.assertEqual(easier(rule), (
            ("bar", "cake", "much"), ("bar", "cake", "some"), ("bar", "cake", "more"), ("bar", "cake", "same"),
            ("bar", "cake", "-"), ("bar", "bar", "much"), ("bar", "bar", "more"), ("bar", "bar", "-")))

    def test_only_greater_keeps(self):
        for high, told in ((99, ("rinse", "-")), (100, ("-",)), (101, ("-",)), (1000, ())):
            cleanings = (("rinse", 0, 100), ("wipe", 0, high))
            rule = allowing(with_works(RULE, cleanings=cleanings), 10 ** 12).changed("bar", "cake", "wipe")
            self.assertEqual([row for row in easier(rule) if row[:2] == ("bar", "cake")],
                             [("bar", "cake", cleaning) for cleaning in told])

    def test_low_keeps_play_no_part(self):
        cleanings = (("rinse", 0, 100), ("wipe", 100, 100), ("wash", 90, 101))
        rule = allowing(with_works(RULE, cleanings=cleanings), 10 ** 12)
        self.assertEqual(easier(rule), (("bar", "cake", "wash"), ("bar", "cake", "-")))

    def test_a_rule_that_does_not_keep_the_limits(self):
        self.assertEqual(easier(LOOSE), ())
        self.assertEqual(easier(allowing(RULE, 0)), ())
        self.assertEqual(easier(allowing(RULE, 22)), ())

    def test_at_the_limit(self):
        # Without a cleaning there are up to 225 behind ever more bars.
        for most, told in ((224, ()), (225, (("bar", "cake", "-"),)), (226, (("bar", "cake", "-"),))):
            self.assertEqual(easier(allowing(RULE, most)), told)

    def test_no_table(self):
        self.assertEqual(easier(Rule(SMALL, "mixer", ())), ())


class Weakest(unittest.TestCase):
    def with_high(self, rule, cleaning, high):
        cleanings = tuple((name, 0, high) if name == cleaning else (name, *rest)
                          for name, *rest in rule.works.cleanings)
        return with_works(rule, cleanings=cleanings)

    def test_one_more_does_not_keep(self):
        found = []
        for rule in NEAR:
            for cleaning in ("ca", "cz"):
                told = weakest(rule, cleaning)
                found.append(told)
                if told is None:
                    self.assertFalse(keeps(self.with_high(rule, cleaning, 0)))
                    continue
                self.assertIs(type(told), int)
                self.assertTrue(0 <= told <= 1000)
                self.assertTrue(keeps(self.with_high(rule, cleaning, told)))
                if told < 1000:
                    self.assertFalse(keeps(self.with_high(rule, cleaning, told + 1)))
        self.assertTrue(None in found and 0 in found and 1000 in found)
        self.assertGreater(len([told for told in found if told and told < 1000]), 5)

    def test_each_number(self):
        """Contents with which each number is told once."""
        for keep in list(range(0, 1001, 7)) + [1, 2, 998, 999, 1000]:
            # 0.9 * 0.2 * 1000 * keep / 1000 are at most the limit.
            works = with_works(RULE, products=(("bar", ((0, 10 ** 6),)), ("cake", ((0, 0),)))).works
            rule = allowing(Rule(works, "mixer", (("bar", "cake", "rinse"),)), 180 * keep)
            self.assertEqual(weakest(rule, "rinse"), keep)
            if keep:
                self.assertEqual(weakest(allowing(rule, 180 * keep - 1), "rinse"), keep - 1)

    def test_wherever_it_is_used(self):
        rule = RULE.changed("bar", "bar", "rinse")
        # x = 0.2 * k * (x + 1000), and 0.9 * x is at most 30.
        told = weakest(rule, "rinse")
        for keep, kept in ((told, True), (told + 1, False)):
            factor = Fraction(keep, 5000)
            self.assertIs(Fraction(9, 10) * 1000 * factor / (1 - factor) <= 30, kept)

    def test_the_low_keep_plays_no_part(self):
        for low in (0, 50, 100):
            self.assertEqual(weakest(with_works(RULE, cleanings=(("rinse", low, 100),)), "rinse"), 133)
        self.assertEqual(weakest(with_works(RULE, cleanings=(("rinse", 900, 900),)), "rinse"), 133)

    def test_cleanings_that_are_not_used(self):
        cleanings = (("rinse", 0, 100), ("wipe", 500, 700))
        self.assertEqual(weakest(with_works(RULE, cleanings=cleanings), "wipe"), 1000)
        self.assertIsNone(weakest(with_works(LOOSE, cleanings=cleanings), "wipe"))
        self.assertIsNone(weakest(LOOSE, "rinse"))
        self.assertEqual(weakest(Rule(SMALL, "mixer", ()), "rinse"), 1000)

    def test_the_ends(self):
        self.assertEqual(weakest(allowing(RULE, 10 ** 12), "rinse"), 1000)
        self.assertEqual(weakest(allowing(RULE, 0), "rinse"), 0)
        self.assertIsNone(weakest(allowing(LOOSE, 0), "rinse"))
        # 0.9 * 0.2 * 0.001 * 1250 = 0.225 is above 0; with a hold of all nothing goes on.
        self.assertEqual(weakest(with_works(allowing(RULE, 0), machines=(("mixer", 1000, 1000),)), "rinse"), 1000)


class Mends(unittest.TestCase):
    def wanted(self, rule, changes):
        """All least sets, by what they are."""
        def made(some):
            one = rule
            for at in some:
                one = one.changed(*changes[at])
            return one

        sets = [some for many in range(len(changes) + 1) for some in combinations(range(len(changes)), many)
                if len({changes[at][:2] for at in some}) == many]
        right = [some for some in sets if keeps(made(some))]
        return tuple(some for some in right if not any(set(one) < set(some) for one in right))

    def test_against_all_sets(self):
        dice = random.Random(3)
        told = []
        for rule in NEAR + 4 * [allowing(rule, (needed(rule) or 30) // 4) for rule in RULES if rule.table]:
            names = names_of(rule)
            pairs = [row[:2] for row in rule.table] or [(names[0], names[0])]
            changes = tuple(dice.choice(pairs + [(dice.choice(names), dice.choice(names))]) +
                            (dice.choice(("-", "cz", "cz", None, None, "ca")),) for _ in range(dice.randrange(7)))
            found = mends(rule, changes)
            self.assertEqual(found, self.wanted(rule, changes), (str(rule), changes))
            told.append(found)
        self.assertTrue(() in told and ((),) in told)
        self.assertGreater(len([found for found in told if len(found) > 1]), 3)
        self.assertGreater(len([found for found in told if [some for some in found if len(some) > 1]]), 3)

    def test_those_that_it_keeps_already(self):
        self.assertEqual(mends(RULE, ()), ((),))
        self.assertEqual(mends(RULE, (("bar", "cake", "-"), ("bar", "bar", None))), ((),))

    def test_none(self):
        self.assertEqual(mends(LOOSE, ()), ())
        self.assertEqual(mends(LOOSE, (("cake", "bar", None), ("bar", "bar", None), ("bar", "cake", "-"))), ())

    def test_changes_that_change_nothing(self):
        self.assertEqual(mends(LOOSE, (("bar", "cake", "-"), ("bar", "cake", "rinse"))), ((1,),))
        self.assertEqual(mends(LOOSE, (("bar", "bar", "-"), ("bar", "cake", "rinse"))), ((1,),))
        rule = RULE.changed("cake", "bar", None)
        self.assertEqual(mends(rule, (("cake", "bar", None),)), ((),))

    def test_the_same_change_twice(self):
        changes = (("bar", "cake", "rinse"), ("bar", "cake", "rinse"), ("bar", "cake", None), ("cake", "cake", None))
        self.assertEqual(mends(LOOSE, changes), ((0,), (1,), (2,)))

    def test_the_order_is_by_number_and_then_ascending(self):
        # A cake stays below 30 without the way from bars, or if both of other ways are cleaned.
        rule = with_works(LOOSE, products=(("bar", ((1000, 1000),)), ("cake", ((0, 0),)), ("roll", ((2000, 2000),))))
        rule = rule.changed("roll", "cake", "-").changed("bar", "bar", None).changed("cake", "bar", None)
        changes = (("roll", "cake", "rinse"), ("roll", "cake", None), ("bar", "cake", "rinse"), ("bar", "cake", None))
        # 0.9 * 0.2 * 2000 * 0.1 = 36 are too much.
        self.assertEqual(mends(rule, changes), ((1, 2), (1, 3)))
        self.assertEqual(mends(allowing(rule, 36), changes), ((0, 2), (0, 3), (1, 2), (1, 3)))
        self.assertEqual(mends(allowing(rule, 180), changes), ((0,), (1,)))
        self.assertEqual(mends(allowing(rule, 180), changes[2:] + changes[:2]), ((2,), (3,)))

    def test_a_set_behind_a_greater_number_of_changes(self):
        """One change alone mends it; of the others only several together do."""
        rule = with_works(RULE, products=(("bar", ((1000, 1000),)), ("cake", ((0, 0),)), ("roll", ((1000, 1000),))))
        rule = Rule(rule.works, "mixer", (("bar", "cake", "-"), ("roll", "cake", "-"), ("roll", "bar", "-")))
        changes = (("bar", "cake", None), ("roll", "cake", None), ("roll", "bar", None), ("bar", "cake", "rinse"),
                   ("roll", "cake", "rinse"))
        self.assertEqual(mends(rule, changes), self.wanted(rule, changes))
        self.assertEqual(mends(rule, changes), ((0, 1), (0, 4), (1, 3), (3, 4)))

    def test_six_changes(self):
        """The ways from what alone has something to six others must all go, also in a rule with all other pairs."""
        rule = greatest_rule(1, (0, 450))
        products = tuple((name, ((0, 10 ** 12),) * 2 + ((0, 10 ** 12 if name == "ph" else 0),))
                         for name in names_of(rule))
        rule = with_works(rule, stuffs=(("sa", 0), ("sb", 0), ("sc", 0)), products=products)
        rule = rule.changed("ph", "pg", None)
        self.assertEqual((len(rule.table), first_above(rule)), (63, ("pa", "sc")))
        changes = tuple(("ph", f"p{letter}", None) for letter in "fedcba")
        self.assertEqual(mends(rule, changes), ((0, 1, 2, 3, 4, 5),))
        self.assertEqual(mends(rule, changes[:5]), ())
        self.assertEqual(mends(rule.changed("ph", "pf", None), changes), ((1, 2, 3, 4, 5),))


class BestOrder(unittest.TestCase):
    def told(self, rule, ordered, stuff):
        """The least greatest amount over all orders, by the plans of these lots; None if there is none."""
        found = []
        for row in set(permutations(ordered)):
            if all(rule.cleaning(*pair) is not None for pair in zip(row, row[1:])):
                plan = plan_of(rule, row)
                found.append(max([Fraction(0)] + [worth(self, greatest(plan, lot, stuff)) for lot, name in enumerate(row)
                                                  if not rule.works.declares(name, stuff)]))
        return min(found) if found else None, found

    def test_against_all_orders(self):
        dice = random.Random(5)
        none = unlike = 0
        for rule in some_rules(150, 4, 8):
            ordered = tuple(dice.choice(names_of(rule)) for _ in range(dice.randrange(1, 6)))
            for stuff in stuffs_of(rule):
                wanted, every = self.told(rule, ordered, stuff)
                best = best_order(rule, ordered, stuff)
                unlike += len(set(every)) > 1
                if wanted is None:
                    self.assertIsNone(best)
                    none += 1
                    continue
                amount, row = best
                self.assertEqual(worth(self, amount), wanted)
                self.assertIs(type(row), tuple)
                self.assertEqual(sorted(row), sorted(ordered))
                self.assertEqual(self.told_of(rule, row, stuff), wanted)
        self.assertGreater(none, 10)
        self.assertGreater(unlike, 10)

    def told_of(self, rule, row, stuff):
        """The greatest amount of a lot of just this row; it is one of the rule."""
        self.assertTrue(all(rule.cleaning(*pair) is not None for pair in zip(row, row[1:])))
        plan = plan_of(rule, row)
        return max([Fraction(0)] + [worth(self, greatest(plan, lot, stuff)) for lot, name in enumerate(row)
                                    if not rule.works.declares(name, stuff)])

    def test_one_lot(self):
        self.assertEqual(best_order(Rule(SMALL, "mixer", ()), ("bar",), "nuts"), ((0, 1), ("bar",)))
        self.assertEqual(best_order(Rule(SMALL, "mixer", ()), ("cake",), "nuts"), ((0, 1), ("cake",)))

    def test_stuffs_that_all_declare(self):
        self.assertEqual(best_order(RULE, ("bar",) * 6, "nuts"), ((0, 1), ("bar",) * 6))
        self.assertIsNone(best_order(RULE.changed("bar", "bar", None), ("bar", "bar"), "nuts"))

    def test_no_row(self):
        self.assertIsNone(best_order(Rule(SMALL, "mixer", ()), ("bar", "cake"), "nuts"))
        rule = Rule(SMALL, "mixer", (("bar", "cake", "-"), ("cake", "bar", "-")))
        self.assertIsNone(best_order(rule, ("bar", "bar"), "nuts"))
        self.assertIsNone(best_order(rule, ("bar", "bar", "bar", "cake"), "nuts"))
        self.assertEqual(best_order(rule, ("bar", "bar", "cake"), "nuts"), ((180, 1), ("bar", "cake", "bar")))

    def test_holds_of_all_and_nothing(self):
        rule = Rule(SMALL, "mixer", (("bar", "cake", "-"),))
        for hold, told in (((0, 0), (0, 1)), ((1000, 1000), (0, 1)), ((0, 1000), (1000, 1)), ((0, 1), (1, 1))):
            other = with_works(rule, machines=(("mixer", *hold),))
            self.assertEqual(best_order(other, ("cake", "bar"), "nuts"), (told, ("bar", "cake")))

    def test_six_products_of_the_greatest_rules(self):
        for seed in range(2):
            rule = greatest_rule(seed)
            for stuff in ("sa", "sc"):
                ordered = tuple(names_of(rule)[seed:seed + 6])
                amount, row = best_order(rule, ordered, stuff)
                self.assertEqual(sorted(row), sorted(ordered))
                self.assertEqual(worth(self, amount), self.told(rule, ordered, stuff)[0])
                self.assertEqual(worth(self, amount), self.told_of(rule, row, stuff))


class GreatestRules(unittest.TestCase):
    def test_easier_and_weakest(self):
        for seed in range(2):
            rule = greatest_rule(seed, (0, 450))
            self.assertIsNone(first_above(rule))
            told = easier(rule)
            self.assertGreater(len(told), 100)
            kept = {name: high for name, _, high in rule.works.cleanings}
            for first, second, cleaning in told[::15]:
                self.assertIsNone(first_above(rule.changed(first, second, cleaning)))
                self.assertGreater(kept.get(cleaning, 1000), kept[rule.cleaning(first, second)])
            for cleaning in kept:
                high = weakest(rule, cleaning)
                cleanings = tuple((name, 0, high) if name == cleaning else (name, *rest)
                                  for name, *rest in rule.works.cleanings)
                self.assertIsNone(first_above(with_works(rule, cleanings=cleanings)))
        self.assertEqual(easier(greatest_rule(0, limits=0)), ())
        self.assertIsNone(weakest(greatest_rule(0, limits=0), "ca"))


class Refused(unittest.TestCase):
    def test_not_a_rule(self):
        for value in NO_RULES:
            check(self, NotARule, "given", value, easier, value)
            check(self, NotARule, "given", value, weakest, value, None)
            check(self, NotARule, "given", value, mends, value, None)
            check(self, NotARule, "given", value, best_order, value, None, None)
            check(self, NotARule, "given", value, best_order, stuff="nuts", ordered=("bar",), rule=value)

    def test_unknown_cleanings(self):
        for value in OTHERS + (0, "mixer", "nuts", "bar", "-", "Rinse", "rins", ("rinse",), ["rinse"]):
            check(self, UnknownName, "given", value, weakest, RULE, value)
            check(self, UnknownName, "given", value, weakest, LOOSE, value)

    def no_changes(self, index, changes):
        check(self, InvalidChanges, "index", index, mends, LOOSE, changes)
        check(self, InvalidChanges, "index", index, mends, changes=changes, rule=RULE)

    def test_changes_that_are_no_tuple(self):
        for value in OTHERS + (0, [("bar", "cake", "-")], [], "bar cake -", RULE):
            if not isinstance(value, tuple):
                self.no_changes(None, value)

    def test_changes_of_any_kind(self):
        right = ("bar", "cake", "rinse")
        rows = OTHERS + ("bar cake -", ("bar",), ("bar", "cake"), right + (None,), list(right), (right,),
                         (("bar", "cake"), "-"), ("bar", ("cake", "-")))
        for row in rows:
            self.no_changes(0, (row,))
            self.no_changes(1, (right, row, None))
        for value in NO_PRODUCTS:
            self.no_changes(1, (right, (value, "cake", "-")))
            self.no_changes(1, (right, ("bar", value, "-")))
        for value in OTHERS + (0, 1, "mixer", "nuts", "bar", "--", "", "scrub", ("-",), ["-"], nested("-", 3)):
            if value is not None:
                self.no_changes(2, (right, right, ("bar", "cake", value), right))

    def test_the_seventh(self):
        right = ("bar", "cake", "rinse")
        self.no_changes(6, (right,) * 7)
        self.no_changes(6, (right,) * 9)
        self.no_changes(6, (right,) * 6 + (None,))
        self.no_changes(5, (right,) * 5 + (None, right, right))
        self.assertEqual(len(mends(LOOSE, (right,) * 6)), 6)

    def no_order(self, index, ordered, stuff="nuts"):
        check(self, InvalidOrdered, "index", index, best_order, RULE, ordered, stuff)

    def test_ordered_that_is_no_tuple_or_empty(self):
        for value in OTHERS + (0, ["bar"], [], "bar", {"bar": 1}, RULE, ()):
            if not isinstance(value, tuple) or value == ():
                self.no_order(None, value)
                self.no_order(None, value, None)

    def test_ordered_of_any_kind(self):
        for value in NO_PRODUCTS:
            self.no_order(0, (value,))
            self.no_order(1, ("bar", value, None))
            self.no_order(5, ("bar",) * 5 + (value,), "x")

    def test_the_seventh_product(self):
        self.no_order(6, ("bar",) * 7)
        self.no_order(6, ("cake", "bar") * 5)
        self.no_order(6, ("cake", "bar") * 3 + (None,))
        self.no_order(3, ("cake", "bar", "cake", None) * 3)

    def test_unknown_stuffs(self):
        for value in OTHERS + (0, "bar", "mixer", "rinse", "milk", "-", ("nuts",), ["nuts"]):
            check(self, UnknownName, "given", value, best_order, RULE, ("bar",), value)
            check(self, UnknownName, "given", value, best_order, RULE.changed("bar", "bar", None), ("bar", "bar"), value)

    def test_nothing_is_changed(self):
        for rule in NEAR[:20]:
            before = (str(rule), rule.table, str(rule.works))
            names = names_of(rule)
            easier(rule)
            weakest(rule, "ca")
            mends(rule, ((names[0], names[0], None), (names[0], names[0], "-")))
            best_order(rule, (names[0], names[-1]), "nuts")
            self.assertEqual((str(rule), rule.table, str(rule.works)), before)


if __name__ == "__main__":
    unittest.main()
