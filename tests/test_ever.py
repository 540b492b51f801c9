import random
import unittest
from fractions import Fraction

from samples import CLEAN, OTHERS, RULE, SMALL, Always, check, nested, worth
from ways import (
    all_ever,
    all_rows,
    follows,
    greatest_rule,
    is_way,
    keeps,
    led,
    let_go,
    limit,
    mixed,
    names_of,
    plan_of,
    share,
    some_rules,
    stuffs_of,
    with_works,
)

from tracebounds.amounts import greatest, least
from tracebounds.errors import InvalidRow, NotARule, UnknownName
from tracebounds.ever import ever, first_above, is_reached, lot_ever, residue, shown
from tracebounds.rules import Rule
from tracebounds.works import Works

RULES = some_rules(150)
OF_PRODUCTS = (ever, is_reached, shown, lot_ever)
NO_NAMES = OTHERS + (0, 1, "mixer", "rinse", "-", "Bar", "ba", "bar ", ("bar",), ["bar"], ("nuts",), RULE, SMALL)


def one_machine(hold, keep, contents, table, limits=(30,)):
    """A rule of products a, b, c .. with these bounds; the table in pairs of letters, with - or + for a cleaning."""
    works = Works((("mixer", *hold),), (("rinse", *keep),), tuple(zip(("nuts", "milk", "eggs"), limits)),
                  tuple((letter, pairs) for letter, pairs in zip("abcdefgh", contents)))
    return Rule(works, "mixer", tuple((row[0], row[1], "rinse" if row[2:] == "+" else "-") for row in table.split()))


def each(rule):
    return [(name, stuff) for name in names_of(rule) for stuff in stuffs_of(rule)]


class Examples(unittest.TestCase):
    def test_ever(self):
        self.assertEqual(
            [ever(RULE, "bar", "nuts"), ever(RULE, "cake", "nuts"), lot_ever(RULE, "cake", "nuts"),
             is_reached(RULE, "cake", "nuts"), first_above(RULE), RULE.factor("bar", "cake")],
            [(250, 1), (25, 1), (45, 2), False, None, (1, 50)])

    def test_residues(self):
        self.assertEqual(
            [residue(RULE, ("bar", "bar"), "cake", "nuts"), residue(RULE, ("bar", "cake"), "cake", "nuts"),
             residue(RULE, (), "bar", "nuts"), len(shown(RULE, "bar", "nuts"))],
            [((0, 1), (24, 1)), ((0, 1), (4, 1)), ((0, 1), (0, 1)), 2])

    def test_changed_rules(self):
        self.assertEqual(
            [first_above(RULE.changed("bar", "cake", "-")),
             is_reached(RULE.changed("bar", "bar", None).changed("cake", "bar", None), "cake", "nuts")],
            [("cake", "nuts"), True])

    def test_by_name(self):
        self.assertEqual(residue(stuff="nuts", product="cake", row=("bar", "bar"), rule=RULE), ((0, 1), (24, 1)))
        for call in OF_PRODUCTS:
            self.assertEqual(call(stuff="nuts", product="cake", rule=RULE), call(RULE, "cake", "nuts"))
        self.assertEqual(first_above(rule=RULE.changed("bar", "cake", "-")), ("cake", "nuts"))


class Residues(unittest.TestCase):
    def test_against_residues_led_forward(self):
        for rule in RULES[:60]:
            for row in all_rows(rule, 3):
                for product, stuff in each(rule):
                    if follows(rule, row, product):
                        low, high = residue(rule, row, product, stuff)
                        self.assertEqual(worth(self, low), led(rule, row, product, stuff, 0))
                        self.assertEqual(worth(self, high), led(rule, row, product, stuff, 1))

    def test_goes_with_the_plan(self):
        """What a lot lets go on at the low hold is its greatest amount, at the high hold its least one."""
        for rule in RULES:
            low, high = rule.works.hold(rule.machine)
            for row in all_rows(rule, 3):
                for product, stuff in each(rule):
                    if follows(rule, row, product):
                        plan = plan_of(rule, row + (product,))
                        left = [worth(self, one) for one in residue(rule, row, product, stuff)]
                        contents = rule.works.content(product, stuff)
                        self.assertEqual(worth(self, greatest(plan, len(row), stuff)),
                                         (1 - Fraction(low, 1000)) * (left[1] + contents[1]))
                        self.assertEqual(worth(self, least(plan, len(row), stuff)),
                                         (1 - Fraction(high, 1000)) * (left[0] + contents[0]))

    def test_rows_of_24_lots(self):
        for seed in range(3):
            rule = greatest_rule(seed)
            dice = random.Random(seed)
            for many in (22, 23, 24):
                row = tuple(dice.choice(names_of(rule)) for _ in range(many))
                for stuff in stuffs_of(rule):
                    low, high = residue(rule, row, "pb", stuff)
                    self.assertEqual(worth(self, low), led(rule, row, "pb", stuff, 0))
                    self.assertEqual(worth(self, high), led(rule, row, "pb", stuff, 1))

    def test_the_row_without_lots(self):
        for rule in RULES[:20] + [Rule(SMALL, "mixer", ())]:
            for product, stuff in each(rule):
                self.assertEqual(residue(rule, (), product, stuff), ((0, 1), (0, 1)))

    def test_without_a_common_divisor(self):
        rule = one_machine((333, 334), (1, 2), [((1, 3),), ((0, 0),)], "ab+ aa-")
        # 0.333 * 0.001 * 1 and 0.334 * 0.002 * 3; then 0.333 * 1.333 * 0.001 and 0.334 * 0.002 * (0.334 * 3 + 3).
        self.assertEqual(residue(rule, ("a",), "b", "nuts"), ((333, 1000000), (501, 250000)))
        self.assertEqual(residue(rule, ("a", "a"), "b", "nuts"), ((443889, 1000000000), (334167, 125000000)))

    def test_holds_and_keeps_of_nothing_and_all(self):
        contents = [((5, 7),), ((0, 0),)]
        for hold, keep, clean, dirty in (
            ((0, 0), (0, 1000), ((0, 1), (0, 1)), ((0, 1), (0, 1))),
            ((1000, 1000), (1000, 1000), ((10, 1), (14, 1)), ((10, 1), (14, 1))),
            ((1000, 1000), (0, 0), ((0, 1), (0, 1)), ((10, 1), (14, 1))),
            ((0, 1000), (0, 1000), ((0, 1), (14, 1)), ((0, 1), (14, 1))),
        ):
            rule = one_machine(hold, keep, contents, "aa- ab+ ba-")
            self.assertEqual(residue(rule, ("a", "a"), "b", "nuts"), clean)
            self.assertEqual(residue(rule.changed("a", "b", "-"), ("a", "a"), "b", "nuts"), dirty)


class Ever(unittest.TestCase):
    def test_against_all_ways_back(self):
        for rule in RULES:
            for product, stuff in each(rule):
                told, told_back = ever(rule, product, stuff), all_ever(rule, product, stuff)
                self.assertEqual(told if told is None else worth(self, told), told_back, str(rule))
                self.assertEqual(ever(rule, product, stuff), told)

    def test_the_rules_bring_what_is_asked_for(self):
        told = [ever(rule, *pair) for rule in RULES for pair in each(rule)]
        self.assertGreater(told.count(None), 50)
        self.assertGreater(told.count((0, 1)), 50)
        self.assertGreater(len([one for one in told if one and one[0]]), 50)

    def test_more_products(self):
        for rule in some_rules(12, 6, seed=1):
            for product in names_of(rule)[:2]:
                told = ever(rule, product, "nuts")
                self.assertEqual(told if told is None else worth(self, told), all_ever(rule, product, "nuts"))

    def test_the_least_numbers_that_hold(self):
        """None of the greatest rules' numbers is too small, and each is what some way comes to."""
        for seed in range(6):
            rule = greatest_rule(seed)
            for stuff in stuffs_of(rule):
                told = {name: worth(self, ever(rule, name, stuff)) for name in names_of(rule)}
                for first, second, _ in rule.table:
                    high = rule.works.content(first, stuff)[1]
                    self.assertGreaterEqual(told[second], share(rule, first, second) * (told[first] + high))
                for name in told:
                    self.assertEqual(limit(rule, *shown(rule, name, stuff), name, stuff), told[name])

    def test_no_row_goes_beyond(self):
        for rule in RULES[:50]:
            for row in all_rows(rule, 4):
                for product, stuff in each(rule):
                    most = ever(rule, product, stuff) if follows(rule, row, product) else None
                    if most is not None:
                        self.assertLessEqual(led(rule, row, product, stuff), worth(self, most))

    def test_rows_come_near(self):
        for rule in RULES[:100]:
            for product, stuff in each(rule):
                most = ever(rule, product, stuff)
                ring, tail = shown(rule, product, stuff)
                rows = [led(rule, ring * many + tail, product, stuff) for many in (10, 100, 300)]
                if most is None:
                    self.assertTrue(0 < rows[0] < rows[1])
                    self.assertEqual((rows[2] - rows[1]) * 9, (rows[1] - rows[0]) * 20)
                else:
                    slope = max([0] + [share(rule, *pair) for pair in zip(ring, ring[1:] + ring[:1])])
                    if slope < Fraction(9, 10):
                        self.assertLess(worth(self, most) - rows[2], Fraction(1, 10 ** 6))

    def test_without_end(self):
        """A ring of factors 1 with something in it; what comes to it from outside alone does not count."""
        for contents, told in (((0, 0, 0), (0, 1)), ((1, 0, 0), None), ((0, 1, 0), None), ((0, 0, 1), (0, 1))):
            rule = one_machine((1000, 1000), (0, 500), [((0, most),) for most in contents], "ab ba bc")
            self.assertEqual([ever(rule, name, "nuts") for name in "abc"], [told, told, told])
        rule = one_machine((0, 1000), (0, 500), [((0, 0),), ((0, 0),), ((0, 6),)], "ab ba ca")
        self.assertEqual([ever(rule, name, "nuts") for name in "abc"], [(6, 1), (6, 1), (0, 1)])
        self.assertEqual([is_reached(rule, name, "nuts") for name in "abc"], [True, True, True])

    def test_a_keep_of_all_is_like_none(self):
        rule = one_machine((1000, 1000), (0, 1000), [((0, 2),)], "aa+")
        self.assertIsNone(ever(rule, "a", "nuts"))
        rule = one_machine((999, 999), (0, 1000), [((0, 2),)], "aa+")
        self.assertEqual(ever(rule, "a", "nuts"), (1998, 1))
        rule = one_machine((1000, 1000), (0, 999), [((0, 2),)], "aa+")
        self.assertEqual(ever(rule, "a", "nuts"), (1998, 1))

    def test_a_factor_of_nothing(self):
        """Also behind what grows without end, and with a hold of nothing."""
        rule = one_machine((1000, 1000), (0, 0), [((3, 3),), ((0, 0),), ((2, 2),)], "aa- ab+ bb- bc-")
        self.assertEqual([ever(rule, name, "nuts") for name in "abc"], [None, (0, 1), (0, 1)])
        self.assertEqual(ever(rule.changed("a", "b", "-"), "b", "nuts"), None)
        rule = one_machine((0, 0), (0, 1000), [((3, 3),), ((2, 2),)], "aa- ab+ ba-")
        self.assertEqual([ever(rule, name, "nuts") for name in "ab"], [(0, 1), (0, 1)])
        self.assertEqual([is_reached(rule, name, "nuts") for name in "ab"], [True, True])

    def test_without_end_far_away(self):
        rule = one_machine((0, 1000), (0, 1), [((0, most),) for most in (0, 0, 0, 1, 0, 0, 0, 0)],
                           "ab bc cd da de+ ef+ fg+ gh+")
        self.assertEqual([ever(rule, name, "nuts") for name in "abcdefgh"], [None] * 8)
        ring, tail = shown(rule, "h", "nuts")
        self.assertEqual((len(ring), tail[-4:]), (4, ("d", "e", "f", "g")))

    def test_a_product_that_nothing_leads_to(self):
        rule = one_machine((100, 200), (0, 100), [((0, 5),), ((0, 5),)], "ab-")
        self.assertEqual([ever(rule, name, "nuts") for name in "ab"], [(0, 1), (1, 1)])
        self.assertEqual(ever(Rule(SMALL, "mixer", ()), "cake", "nuts"), (0, 1))

    def test_a_better_ring_farther_away(self):
        """The ring that comes to most is not the one that is nearest."""
        rule = one_machine((900, 900), (0, 500), [((0, 10),), ((0, 1000),), ((0, 0),)], "aa- ab- ba- bb+ ac-")
        # Ahead of a behind b, x: a = 0.9 * (b + 1000), b = 0.9 * (a + 10).
        told = Fraction(9, 10) * (9 + 1000) / (1 - Fraction(81, 100))
        self.assertEqual(worth(self, ever(rule, "a", "nuts")), told)
        self.assertEqual(worth(self, ever(rule, "c", "nuts")), Fraction(9, 10) * (told + 10))

    def test_the_order_of_the_products_and_of_the_table_plays_no_part(self):
        dice = random.Random(0)
        for rule in RULES[:60] + [greatest_rule(7)]:
            other = mixed(rule, dice)
            for product, stuff in each(rule):
                for call in (ever, is_reached, lot_ever):
                    self.assertEqual(call(rule, product, stuff), call(other, product, stuff))

    def test_the_other_stuffs_play_no_part(self):
        for rule in RULES[:60]:
            products = tuple((name, contents[:1]) for name, contents in rule.works.products)
            other = with_works(rule, stuffs=rule.works.stuffs[:1], products=products)
            for product in names_of(rule):
                for call in (ever, is_reached, lot_ever):
                    self.assertEqual(call(rule, product, "nuts"), call(other, product, "nuts"))

    def test_the_other_machines_and_what_is_not_used_play_no_part(self):
        for rule in RULES[:30]:
            other = with_works(rule, machines=(("oven", 1000, 1000),) + rule.works.machines[:1],
                               cleanings=rule.works.cleanings + (("more", 1000, 1000),))
            for product, stuff in each(rule):
                self.assertEqual(ever(rule, product, stuff), ever(other, product, stuff))

    def at_most(self, left, right):
        self.assertTrue(right is None or (left is not None and worth(self, left) <= worth(self, right)))

    def test_a_pair_less_and_no_cleaning(self):
        for rule in RULES[:60]:
            for first, second, _ in rule.table:
                for product, stuff in each(rule):
                    told = ever(rule, product, stuff)
                    self.at_most(ever(rule.changed(first, second, None), product, stuff), told)
                    self.at_most(told, ever(rule.changed(first, second, "-"), product, stuff))


class Reached(unittest.TestCase):
    def test_against_all_rows(self):
        for rule in RULES:
            rows = all_rows(rule, 5) if len(names_of(rule)) < 4 else all_rows(rule, 4)
            for product, stuff in each(rule):
                told = is_reached(rule, product, stuff)
                most = ever(rule, product, stuff)
                found = most is not None and any(led(rule, row, product, stuff) == worth(self, most)
                                                 for row in rows if follows(rule, row, product))
                self.assertIs(told, found, str(rule))

    def test_never_without_end(self):
        for rule in RULES:
            for product, stuff in each(rule):
                if ever(rule, product, stuff) is None:
                    self.assertIs(is_reached(rule, product, stuff), False)

    def test_the_residue_of_a_first_lot(self):
        for rule in (Rule(SMALL, "mixer", ()), one_machine((0, 0), (0, 0), [((0, 9),)], "aa-")):
            for product, stuff in each(rule):
                self.assertIs(is_reached(rule, product, stuff), True)

    def test_nearer_and_nearer(self):
        self.assertIs(is_reached(RULE, "bar", "nuts"), False)
        rule = one_machine((500, 500), (0, 100), [((0, 8),), ((0, 0),)], "aa- ab-")
        self.assertEqual([(ever(rule, name, "nuts"), is_reached(rule, name, "nuts")) for name in "ab"],
                         [((8, 1), False), ((8, 1), False)])
        # Another product comes to just the same, behind a row.
        rule = one_machine((500, 500), (0, 100), [((0, 8),), ((0, 0),), ((0, 16),)], "aa- ab- cb-")
        self.assertEqual([is_reached(rule, name, "nuts") for name in "abc"], [False, True, True])
        rule = one_machine((500, 500), (0, 100), [((0, 8),), ((0, 0),), ((0, 16),)], "aa- ab- ca-")
        self.assertEqual([is_reached(rule, name, "nuts") for name in "abc"], [True, True, True])

    def test_behind_eight_lots(self):
        contents = [((0, 1),)] * 8
        rule = one_machine((500, 500), (0, 100), contents, "ab bc cd de ef fg gh")
        self.assertEqual((ever(rule, "h", "nuts"), is_reached(rule, "h", "nuts")), ((127, 128), True))


class Shown(unittest.TestCase):
    def test_ways(self):
        for rule in RULES + [greatest_rule(seed) for seed in range(4)] + [greatest_rule(9, (1000, 1000))]:
            for product, stuff in each(rule):
                way = shown(rule, product, stuff)
                self.assertTrue(is_way(rule, way, product), (str(rule), way))
                told = ever(rule, product, stuff)
                self.assertEqual(limit(rule, *way, product, stuff), told if told is None else worth(self, told))
                self.assertEqual(shown(rule, product, stuff), way)

    def test_without_a_ring(self):
        self.assertEqual(shown(Rule(SMALL, "mixer", ()), "bar", "nuts"), ((), ()))
        self.assertEqual(shown(Rule(SMALL, "mixer", (("bar", "cake", "-"),)), "cake", "nuts"), ((), ("bar",)))

    def test_with_a_ring(self):
        self.assertEqual(shown(RULE, "cake", "nuts"), (("bar",), ("bar",)))
        self.assertEqual(shown(RULE, "bar", "nuts"), (("bar",), ("bar",)))

    def test_all_products_in_a_ring(self):
        for letters in ("ab bc cd de ef fg gh ha", "ab bc cd de ef fg gh hb"):
            for hold in ((0, 500), (0, 1000)):
                rule = one_machine(hold, (0, 100), [((0, 1),)] * 8, letters)
                for product in "abcdefgh":
                    told = ever(rule, product, "nuts")
                    way = shown(rule, product, "nuts")
                    self.assertTrue(is_way(rule, way, product))
                    self.assertEqual(limit(rule, *way, product, "nuts"), told and worth(self, told))


class LotEver(unittest.TestCase):
    def test_what_goes_on(self):
        for rule in RULES + [greatest_rule(3)]:
            for product, stuff in each(rule):
                most = ever(rule, product, stuff)
                told = lot_ever(rule, product, stuff)
                self.assertEqual(told if told is None else worth(self, told),
                                 let_go(rule, product, stuff, most if most is None else worth(self, most)))

    def test_without_end(self):
        for low, told in ((0, None), (999, None), (1000, (0, 1))):
            rule = one_machine((low, 1000), (0, 0), [((0, 1),), ((0, 0),)], "aa- ab-")
            self.assertEqual(lot_ever(rule, "a", "nuts"), told)
            self.assertEqual(lot_ever(rule, "b", "nuts"), told)

    def test_of_a_product_that_declares_the_stuff(self):
        rule = one_machine((100, 200), (0, 100), [((0, 1000),)], "aa-")
        self.assertEqual(lot_ever(rule, "a", "nuts"), (1125, 1))
        self.assertEqual(lot_ever(one_machine((100, 200), (0, 0), [((0, 7),)], ""), "a", "nuts"), (63, 10))


class FirstAbove(unittest.TestCase):
    def test_against_all_ways_back(self):
        for rule in RULES:
            wrong = [(name, stuff) for name, stuff in each(rule)
                     if not rule.works.declares(name, stuff) and self.above(rule, name, stuff)]
            told = first_above(rule)
            self.assertEqual(told, wrong[0] if wrong else None)
            self.assertIs(told is None, keeps(rule))

    def above(self, rule, name, stuff):
        amount = let_go(rule, name, stuff, all_ever(rule, name, stuff))
        return amount is None or amount > rule.works.limit(stuff)

    def test_at_the_limit(self):
        # 0.9 * 0.2 * 1000 = 180; then 0.9 * 0.2 * 1001 and 0.9 * 0.2 * 999.
        for content, most, told in ((1000, 180, None), (1000, 179, ("b", "nuts")), (1000, 181, None),
                                    (1001, 180, ("b", "nuts")), (999, 180, None), (999, 179, ("b", "nuts"))):
            rule = one_machine((100, 200), (0, 100), [((0, content),), ((0, 0),)], "ab-", (most,))
            self.assertEqual(first_above(rule), told)

    def test_in_their_order(self):
        nothing, much = (0, 0), (0, 1000)
        contents = [(much, much), (nothing, nothing), (nothing, nothing)]
        for limits, told in (((0, 0), ("b", "nuts")), ((10 ** 6, 0), ("b", "milk")), ((0, 10 ** 6), ("b", "nuts")),
                             ((10 ** 6, 10 ** 6), None)):
            self.assertEqual(first_above(one_machine((0, 500), (0, 0), contents, "ab ac", limits)), told)
            self.assertEqual(first_above(one_machine((0, 500), (0, 0), contents, "ac ab", limits)), told)
        # The product comes ahead of the stuff.
        contents = [((0, 1000), (0, 1000)), (nothing, (0, 1)), (nothing, nothing)]
        rule = one_machine((0, 500), (0, 0), contents, "ab ac", (10 ** 6, 0))
        self.assertEqual(first_above(rule), ("c", "milk"))
        contents = [(much, much), ((0, 1), nothing), (nothing, nothing)]
        self.assertEqual(first_above(one_machine((0, 500), (0, 0), contents, "ab ac", (0, 0))), ("b", "milk"))

    def test_declared_stuffs_have_no_limit(self):
        for hold in ((0, 500), (0, 1000)):
            rule = one_machine(hold, (0, 0), [((0, 10 ** 12),), ((0, 1),)], "aa ab ba bb", (0,))
            self.assertIsNone(first_above(rule))
        # A low content above 0 is not needed to declare.
        rule = one_machine((0, 500), (0, 0), [((0, 10 ** 12),), ((0, 0),)], "aa ab ba bb", (0,))
        self.assertEqual(first_above(rule), ("b", "nuts"))

    def test_without_end(self):
        rule = one_machine((0, 1000), (0, 0), [((0, 1),), ((0, 0),)], "aa ab", (10 ** 12,))
        self.assertEqual(first_above(rule), ("b", "nuts"))
        self.assertIsNone(first_above(rule.changed("a", "b", "rinse")))
        self.assertIsNone(first_above(one_machine((1000, 1000), (0, 0), [((0, 1),), ((0, 0),)], "aa ab", (0,))))


class Refused(unittest.TestCase):
    def test_not_a_rule(self):
        for rule in OTHERS + (0, CLEAN, SMALL, str(RULE), RULE.table):
            check(self, NotARule, "given", rule, residue, rule, None, None, None)
            check(self, NotARule, "given", rule, residue, rule, ("bar",), "bar", "nuts")
            check(self, NotARule, "given", rule, first_above, rule)
            for call in OF_PRODUCTS:
                check(self, NotARule, "given", rule, call, rule, "bar", "nuts")
                check(self, NotARule, "given", rule, call, stuff=None, product=None, rule=rule)

    def test_unknown_products(self):
        for product in NO_NAMES + ("nuts", "roll"):
            check(self, UnknownName, "given", product, residue, RULE, None, product, None)
            check(self, UnknownName, "given", product, residue, RULE, ("bar",), product, "nuts")
            for call in OF_PRODUCTS:
                check(self, UnknownName, "given", product, call, RULE, product, "nuts")
                check(self, UnknownName, "given", product, call, RULE, product, "x")

    def test_unknown_stuffs(self):
        for stuff in NO_NAMES + ("bar", "milk"):
            check(self, UnknownName, "given", stuff, residue, RULE, None, "bar", stuff)
            check(self, UnknownName, "given", stuff, residue, RULE, ("bar",), "bar", stuff)
            for call in OF_PRODUCTS:
                check(self, UnknownName, "given", stuff, call, RULE, "bar", stuff)

    def refused(self, index, row, product="bar", rule=RULE):
        check(self, InvalidRow, "index", index, residue, rule, row, product, "nuts")

    def test_no_tuples(self):
        for row in OTHERS + (0, ["bar"], [], "bar", {"bar": 1}, RULE, SMALL, Always()):
            if not isinstance(row, tuple):
                self.refused(None, row)

    def test_elements_of_any_kind(self):
        for value in NO_NAMES + ("nuts", "roll", nested("bar", 3)):
            self.refused(0, (value,))
            self.refused(0, (value, value))
            self.refused(2, ("bar", "cake", value))
            self.refused(1, ("bar", value, "cake"))

    def test_what_is_not_let(self):
        rule = Rule.read(SMALL, "rule mixer\nbar cake rinse\ncake cake -")
        self.refused(1, ("bar", "bar"), "cake", rule)
        self.refused(2, ("bar", "cake", "bar", "bar"), "cake", rule)
        self.refused(1, ("cake", "bar", None), "cake", rule)
        self.assertEqual(residue(rule, ("bar", "cake"), "cake", "nuts"), ((0, 1), (4, 1)))

    def test_what_may_not_follow(self):
        rule = Rule.read(SMALL, "rule mixer\nbar cake rinse\ncake cake -")
        for row in (("bar",), ("cake",), ("bar", "cake"), ("cake",) * 24):
            self.refused(len(row), row, "bar", rule)
        self.refused(1, ("bar",), "bar", rule)
        self.assertEqual(residue(rule, (), "bar", "nuts"), ((0, 1), (0, 1)))

    def test_the_twenty_fifth(self):
        for row in (("bar",) * 25, ("cake",) * 30, ("bar", "cake") * 12 + (None,)):
            self.refused(24, row)
        self.refused(23, ("bar",) * 23 + (None,) + ("bar",) * 5)
        rule = Rule.read(SMALL, "rule mixer\nbar bar -")
        self.refused(24, ("bar",) * 25, "cake", rule)
        self.refused(24, ("bar",) * 24, "cake", rule)
        self.assertEqual(len(residue(rule, ("bar",) * 24, "bar", "nuts")), 2)

    def test_nothing_is_changed(self):
        row = ["bar", "cake"]
        self.refused(None, row)
        self.refused(0, (row,))
        self.assertEqual(row, ["bar", "cake"])
        for rule in RULES[:20]:
            before = (str(rule), rule.table, str(rule.works))
            first_above(rule)
            for product, stuff in each(rule):
                for call in OF_PRODUCTS:
                    call(rule, product, stuff)
            self.assertEqual((str(rule), rule.table, str(rule.works)), before)


if __name__ == "__main__":
    unittest.main()
