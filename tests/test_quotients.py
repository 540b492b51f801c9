import random
import unittest
from fractions import Fraction
from itertools import permutations

from samples import CLEAN, OTHERS, RULE, SMALL, check, worth
from ways import all_rows, follows, greatest_rule, mixed, names_of, share, some_rule, with_works

from tracebounds.errors import InvalidOther, NotARule
from tracebounds.quotients import farthest, quotient
from tracebounds.rules import Rule
from tracebounds.works import Works

LOOSE = RULE.changed("bar", "cake", "-")
NO_RULES = OTHERS + (0, CLEAN, SMALL, str(RULE), RULE.table)


def plain(table, holds=(0, 1000), keeps=(), products="abcdefgh"):
    """A rule whose cleanings have these high keeps, named k0, k1 .. here; the table in pairs with their numbers."""
    letters = "vwxyz"
    works = Works((("mixer", *holds),), tuple((letters[at] * 2, 0, keep) for at, keep in enumerate(keeps)),
                  (("nuts", 0),), tuple((letter, ((0, 0),)) for letter in products))
    return Rule(works, "mixer", tuple(
        (word[0], word[1], letters[int(word[2:])] * 2 if word[2:] else "-") for word in table.split()))


def factors(rule, other):
    """The factors of both rules, for each pair."""
    return {row[:2]: (share(rule, *row[:2]), share(other, *row[:2])) for row in rule.table}


def over_walks(rule, other):
    """The quotient over all walks over unlike products, and all rings of them."""
    both = factors(rule, other)
    if any(one and not two for one, two in both.values()):
        return None
    grown = {pair: one / two for pair, (one, two) in both.items() if one}
    best = Fraction(0)
    walks = [((name,), Fraction(1)) for name in names_of(rule)]
    while walks:
        walk, told = walks.pop()
        for (first, second), growth in grown.items():
            if first == walk[-1]:
                best = max(best, told * growth)
                if second == walk[0] and told * growth > 1:
                    return None
                if second not in walk:
                    walks.append((walk + (second,), told * growth))
    return best


def left(rule, row, contents, product):
    """The greatest residue ahead of this product behind these lots with contents of their own."""
    amount = Fraction(0)
    for first, second, content in zip(row, row[1:] + (product,), contents):
        amount = share(rule, first, second) * (amount + content)
    return amount


def some_pairs(many, most, seed):
    """Pairs of rules that let the same pairs."""
    dice = random.Random(seed)
    found = []
    for at in range(many):
        rule = some_rule(dice, dice.randrange(1, most + 1), 1, loose=at % 3 == 0)
        other = some_rule(dice, len(names_of(rule)), 1, loose=at % 2 == 0)
        table = tuple(row[:2] + (dice.choice(("-", "ca", "cb", "cz")),) for row in mixed(rule, dice).table)
        if at % 4:
            # The second rule cleans less, so that there is a greatest quotient at times.
            other = with_works(other, machines=(("mixer", 0, dice.randrange(500, 1001)),))
        found.append((rule, Rule(other.works, "mixer", table)))
        found.append((rule, Rule(rule.works, "mixer", tuple(
            row if dice.random() < 0.5 else row[:2] + ("-",) for row in rule.table))))
    return found


PAIRS = some_pairs(150, 4, 0)


class Examples(unittest.TestCase):
    def test_all(self):
        shorter = LOOSE.changed("cake", "bar", None), RULE.changed("cake", "bar", None)
        self.assertEqual(
            [quotient(RULE, RULE), quotient(LOOSE, RULE), quotient(RULE, LOOSE), quotient(*shorter),
             farthest(*shorter)[:1]],
            [(1, 1), None, (1, 1), (10, 1), ("bar",)])

    def test_by_name(self):
        shorter = RULE.changed("cake", "bar", None)
        self.assertEqual(quotient(other=shorter, rule=LOOSE.changed("cake", "bar", None)), (10, 1))
        self.assertEqual(farthest(other=shorter, rule=LOOSE.changed("cake", "bar", None))[0], "bar")


class Quotients(unittest.TestCase):
    def test_against_all_walks(self):
        for rule, other in PAIRS:
            told = quotient(rule, other)
            self.assertEqual(told if told is None else worth(self, told), over_walks(rule, other),
                             (str(rule), str(other)))
            self.assertEqual(quotient(rule, other), told)

    def test_the_pairs_bring_what_is_asked_for(self):
        told = [quotient(*pair) for pair in PAIRS]
        self.assertGreater(told.count(None), 30)
        self.assertGreater(told.count((0, 1)), 10)
        self.assertGreater(told.count((1, 1)), 10)
        self.assertGreater(len([one for one in told if one and one[0] > one[1]]), 5)
        self.assertGreater(len([one for one in told if one and 0 < one[0] < one[1]]), 10)

    def test_six_products(self):
        for rule, other in some_pairs(10, 6, 1):
            told = quotient(rule, other)
            self.assertEqual(told if told is None else worth(self, told), over_walks(rule, other))

    def test_no_row_goes_beyond(self):
        dice = random.Random(2)
        for rule, other in PAIRS[:100]:
            told = quotient(rule, other)
            if told is None:
                continue
            for row in all_rows(rule, 4):
                for product in names_of(rule):
                    if follows(rule, row, product):
                        contents = [dice.choice((0, 1, dice.randrange(1000))) for _ in row]
                        one, two = (left(part, row, contents, product) for part in (rule, other))
                        self.assertLessEqual(one, worth(self, told) * two)

    def test_above_and_below_a_ring_of_1(self):
        keeps = (500, 250, 125, 0)
        for one, two, told in (("ab0 ba1", "ab1 ba0", (2, 1)), ("ab0 ba1", "ab1 ba1", None), ("ab1 ba1", "ab0 ba1", (1, 1)),
                               ("ab1 ba1", "ab0 ba0", (1, 2)), ("aa0", "aa0", (1, 1)), ("aa0", "aa1", None),
                               ("aa1", "aa0", (1, 2)), ("ab0 bc0 cd2", "ab1 bc1 cd1", (4, 1)),
                               ("ab0 bc0 ca2", "ab1 bc1 ca1", None), ("ab0 bc0 ca2", "ab2 bc1 ca", (8, 1))):
            self.assertEqual(quotient(plain(one, keeps=keeps), plain(two, keeps=keeps)), told, (one, two))

    def test_where_the_other_rule_leaves_nothing(self):
        keeps = (500, 0)
        for one, two, told in (("ab0", "ab1", None), ("ab1", "ab0", (0, 1)), ("ab1", "ab1", (0, 1)), ("", "", (0, 1)),
                               ("ab0 cd1", "ab0 cd1", (1, 1)), ("ab1 cd0", "ab0 cd1", None),
                               ("ab0 bc1", "ab0 bc1", (1, 1)), ("ab0 bc1 cd0", "ab bc0 cd", (1, 2)),
                               ("ab0 bc1 ca0", "ab0 bc0 ca", (1, 1))):
            self.assertEqual(quotient(plain(one, keeps=keeps), plain(two, keeps=keeps)), told, (one, two))
        self.assertEqual(quotient(plain("ab bc", holds=(0, 0)), plain("ab bc")), (0, 1))
        self.assertEqual(quotient(plain("ab bc", holds=(0, 0)), plain("ab bc", holds=(0, 0))), (0, 1))
        self.assertIsNone(quotient(plain("ab bc"), plain("ab bc", holds=(0, 0))))

    def test_a_ring_of_nothing_does_not_grow(self):
        keeps = (500, 250, 0)
        self.assertEqual(quotient(plain("ab0 bc2 ca0", keeps=keeps), plain("ab1 bc0 ca1", keeps=keeps)), (4, 1))

    def test_eight_lots(self):
        """The longest rows that can be needed: over all products, and back to the first one."""
        keeps = (500, 250)
        one = plain("ab0 bc0 cd0 de0 ef0 fg0 gh0 ha1", keeps=keeps)
        two = plain("ab1 bc1 cd1 de1 ef1 fg1 gh1 ha", keeps=keeps)
        self.assertIsNone(quotient(one, two))
        other = plain("ab1 bc1 cd1 de1 ef1 fg1 gh1", keeps=keeps)
        self.assertEqual(quotient(one.changed("h", "a", None), other), (128, 1))
        self.assertEqual(farthest(one.changed("h", "a", None), other), tuple("abcdefgh"))
        # Doubles and two quarters: a ring above 1, and one of just 1.
        one = plain("ab0 bc0 cd0 de1 ef0 fg0 gh0 ha1", keeps=keeps)
        two = plain("ab1 bc1 cd1 de ef1 fg1 gh1 ha", keeps=keeps)
        self.assertIsNone(quotient(one, two))
        two = plain("ab1 bc1 cd1 de ef1 fg1 gh1 ha", keeps=keeps).changed("b", "c", "vv").changed("f", "g", "vv")
        self.assertEqual(quotient(one, two), (4, 1))

    def test_a_ring_just_above_1(self):
        """Its pairs come to 1/2 and to 2 or a little more or less."""
        other = plain("ab ba0", keeps=(499,))
        for keep, told in ((997, (997, 499)), (998, (2, 1)), (999, None), (1000, None)):
            self.assertEqual(quotient(plain("ab0 ba1", keeps=(500, keep)), other), told)

    def test_contents_and_stuffs_play_no_part(self):
        for rule, other in PAIRS[:60]:
            many = tuple((name, ((3, 10 ** 12), (0, 0), (1, 1))) for name in names_of(rule))
            stuffs = (("eggs", 0), ("milk", 10 ** 12), ("nuts", 7))
            told = quotient(rule, other)
            self.assertEqual(quotient(with_works(rule, stuffs=stuffs, products=many), other), told)
            self.assertEqual(quotient(rule, with_works(other, stuffs=stuffs, products=many)), told)

    def test_other_machines_and_cleanings(self):
        works = Works((("oven", 0, 1), ("pan", 3, 400)), (("wipe", 0, 50),), (("eggs", 1),),
                      (("bar", ((0, 0),)), ("cake", ((5, 5),))))
        other = Rule(works, "pan", tuple(row[:2] + ("wipe",) for row in RULE.table))
        # 1/5 against 1/50, and 1/50 against 1/50.
        self.assertIsNone(quotient(RULE, other))
        self.assertEqual(quotient(other, RULE), (1, 1))
        self.assertEqual(quotient(RULE.changed("bar", "bar", "rinse").changed("cake", "cake", None)
                                  .changed("cake", "bar", None),
                                  other.changed("cake", "cake", None).changed("cake", "bar", None)), (1, 1))

    def test_the_low_ends_play_no_part(self):
        for rule, other in PAIRS[:60]:
            works = rule.works
            lower = with_works(rule, machines=tuple((name, 0, high) for name, _, high in works.machines),
                               cleanings=tuple((name, high, high) for name, _, high in works.cleanings))
            self.assertEqual(quotient(lower, other), quotient(rule, other))
            self.assertEqual(quotient(other, lower), quotient(other, rule))

    def test_the_order_of_the_tables_plays_no_part(self):
        for rule, other in PAIRS[:60]:
            turned = Rule(rule.works, rule.machine, rule.table[::-1])
            self.assertEqual(quotient(turned, other), quotient(rule, other))

    def test_a_rule_and_itself(self):
        for rule, _ in PAIRS:
            leaves = any(share(rule, *row[:2]) for row in rule.table)
            self.assertEqual(quotient(rule, rule), (1, 1) if leaves else (0, 1))

    def test_the_greatest_rules(self):
        for seed in range(4):
            rule = greatest_rule(seed)
            for first, second in (("pa", "ph"), ("pc", "pc")):
                self.assertEqual(quotient(rule, rule.changed(first, second, "-"))[0] >= 1, True)
                told = quotient(rule.changed(first, second, "-"), rule)
                self.assertIsNone(told)
            # Ascending pairs alone have no ring.
            letters = "abcdefgh"
            rise = rule
            for at, one in enumerate(letters):
                for two in letters[:at + 1]:
                    rise = rise.changed(f"p{one}", f"p{two}", None)
            other = with_works(rise, cleanings=tuple((name, 0, 500 + 7 * at) for at, (name, _, _) in
                                                     enumerate(rise.works.cleanings)))
            told = quotient(rise, other)
            self.assertEqual(worth(self, told), over_walks(rise, other))
            self.assertEqual(len(farthest(rise, other)), 8)


class Farthest(unittest.TestCase):
    def test_rows(self):
        for rule, other in PAIRS + some_pairs(20, 8, 3):
            told, row = quotient(rule, other), farthest(rule, other)
            if told is None or told == (0, 1):
                self.assertIsNone(row)
                continue
            self.assertIs(type(row), tuple)
            self.assertTrue(2 <= len(row) <= 9)
            self.assertTrue(all(rule.cleaning(*pair) is not None for pair in zip(row, row[1:])))
            self.assertTrue(all(name in names_of(rule) for name in row))
            one, two = Fraction(1), Fraction(1)
            for pair in zip(row, row[1:]):
                one, two = one * share(rule, *pair), two * share(other, *pair)
            self.assertEqual(one, worth(self, told) * two)
            self.assertGreater(two, 0)

    def test_with_just_one_content(self):
        one, two = LOOSE.changed("cake", "bar", None), RULE.changed("cake", "bar", None)
        row = farthest(one, two)
        contents = [1] + [0] * (len(row) - 2)
        self.assertEqual(left(one, row[:-1], contents, row[-1]), 10 * left(two, row[:-1], contents, row[-1]))


class Refused(unittest.TestCase):
    def test_not_a_rule(self):
        for call in (quotient, farthest):
            for value in NO_RULES:
                check(self, NotARule, "given", value, call, value, RULE)
                check(self, NotARule, "given", value, call, value, None)
                check(self, NotARule, "given", value, call, RULE, value)
                check(self, NotARule, "given", value, call, other=None, rule=value)

    def refused(self, rule, other):
        for call in (quotient, farthest):
            check(self, InvalidOther, "given", other, call, rule, other)
            check(self, InvalidOther, "given", rule, call, other, rule)

    def test_other_products(self):
        products = RULE.works.products
        for others in permutations(products):
            if others != products:
                self.refused(RULE, with_works(RULE, products=others))
        self.refused(RULE, with_works(RULE, products=products + (("roll", ((0, 0),)),)))
        self.refused(Rule(SMALL, "mixer", ()), Rule(with_works(Rule(SMALL, "mixer", ()), products=(
            ("bar", ((0, 0),)), ("roll", ((0, 0),)))).works, "mixer", ()))

    def test_other_pairs(self):
        for first, second, _ in RULE.table:
            self.refused(RULE, RULE.changed(first, second, None))
        self.refused(RULE.changed("bar", "cake", None), RULE.changed("cake", "bar", None))
        self.refused(Rule(SMALL, "mixer", ()), RULE)

    def test_nothing_is_changed(self):
        for rule, other in PAIRS[:20]:
            before = (str(rule), rule.table, str(other), other.table)
            quotient(rule, other)
            farthest(rule, other)
            self.assertEqual((str(rule), rule.table, str(other), other.table), before)


if __name__ == "__main__":
    unittest.main()
