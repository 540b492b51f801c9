import unittest
from fractions import Fraction

from forward import greatest_plan, led, small_plans
from judge import judged, number
from samples import CLEAN, DIRTY, OTHERS, RULE, SMALL, check, worth
from ways import all_ever, greatest_rule, is_way, limit, names_of, some_rules, stuffs_of

from tracebounds.amounts import greatest
from tracebounds.certificates import certify_above, certify_most, certify_never, certify_reached
from tracebounds.checker import accepts
from tracebounds.errors import InvalidBound, InvalidLot, NotAPlan, NotARule, UnknownName
from tracebounds.ever import ever
from tracebounds.plans import Plan
from tracebounds.rules import Rule

PLANS = small_plans(60)
RULES = some_rules(120)
OF_PLANS = (certify_most, certify_reached)


class Examples(unittest.TestCase):
    def test_plans(self):
        claim, paper = certify_most(DIRTY, 1, "nuts")
        self.assertEqual(
            [claim[0], claim[3:], accepts(claim, paper), accepts(claim[:5] + ((179, 1),), paper),
             certify_reached(CLEAN, 1, "nuts")[0][5], certify_never(RULE, "nuts")[0][4]],
            ["most", (1, "nuts", (180, 1)), True, False, (18, 1), (250, 1)])

    def test_rules(self):
        self.assertEqual([certify_above(RULE, "cake", "nuts", 25), certify_above(RULE, "cake", "nuts", 24)[0][5]],
                         [None, (24, 1)])

    def test_by_name(self):
        self.assertEqual(certify_most(stuff="nuts", lot=1, plan=DIRTY), certify_most(DIRTY, 1, "nuts"))
        self.assertEqual(certify_reached(stuff="nuts", lot=1, plan=DIRTY), certify_reached(DIRTY, 1, "nuts"))
        self.assertEqual(certify_never(stuff="nuts", rule=RULE), certify_never(RULE, "nuts"))
        self.assertEqual(certify_above(number=7, stuff="nuts", product="bar", rule=RULE),
                         certify_above(RULE, "bar", "nuts", 7))


class OfPlans(unittest.TestCase):
    def test_all_is_accepted(self):
        for plan in PLANS + [greatest_plan(seed) for seed in range(3)]:
            for lot in range(len(plan)):
                for stuff in [row[0] for row in plan.works.stuffs]:
                    for word, certify in (("most", certify_most), ("reached", certify_reached)):
                        told = certify(plan, lot, stuff)
                        self.assertIs(type(told), tuple)
                        claim, paper = told
                        most = greatest(plan, lot, stuff)
                        self.assertEqual(claim, (word, str(plan.works), str(plan), lot, stuff, most))
                        self.assertEqual([type(part) for part in claim], [str, str, str, int, str, tuple])
                        worth(self, claim[5])
                        self.assertIs(accepts(claim, paper), True, str(plan))
                        self.assertIs(judged(claim, paper), True, str(plan))
                        self.assertEqual(certify(plan, lot, stuff), told)

    def test_what_is_reached_is_led_forward(self):
        for plan in PLANS:
            for lot in range(len(plan)):
                claim, paper = certify_reached(plan, lot, "nuts")
                upto = Plan(plan.works, plan.deeds[:len(paper)])
                contents, shares = [], []
                for deed, told in zip(upto.deeds, paper):
                    contents += [number(told[0])] if deed[0] == "run" else []
                    shares += [number(one) for one in told[1]] if deed[0] == "run" else [number(told)]
                self.assertEqual(led(upto, contents, shares)[lot], Fraction(*claim[5]))

    def test_deeds_behind_the_lot(self):
        """The plan is told whole; the certificate ends with the run of the lot."""
        self.assertEqual(certify_most(CLEAN, 0, "nuts"), (
            ("most", str(SMALL), str(CLEAN), 0, "nuts", (900, 1)), (((9, 10),),)))
        self.assertEqual(len(certify_reached(CLEAN, 0, "nuts")[1]), 1)
        self.assertEqual(len(certify_reached(CLEAN, 1, "nuts")[1]), 3)

    def test_not_a_plan(self):
        for certify in OF_PLANS:
            for plan in OTHERS + (0, SMALL, RULE, str(CLEAN)):
                check(self, NotAPlan, "given", plan, certify, plan, 0, "nuts")
                check(self, NotAPlan, "given", plan, certify, plan, None, None)
                check(self, NotAPlan, "given", plan, certify, stuff=None, lot=None, plan=plan)

    def test_invalid_lots(self):
        for certify in OF_PLANS:
            for lot in OTHERS + (2, -1, "0", (0,), [0], 10 ** 13):
                check(self, InvalidLot, "given", lot, certify, CLEAN, lot, "nuts")
                check(self, InvalidLot, "given", lot, certify, CLEAN, lot, "x")
            check(self, InvalidLot, "given", 0, certify, Plan(SMALL, ()), 0, "nuts")

    def test_unknown_stuffs(self):
        for certify in OF_PLANS:
            for stuff in OTHERS + (0, "bar", "mixer", "milk", ("nuts",), ["nuts"]):
                check(self, UnknownName, "given", stuff, certify, CLEAN, 0, stuff)


class Never(unittest.TestCase):
    def test_all_is_accepted(self):
        none = 0
        for rule in RULES + [greatest_rule(seed) for seed in range(3)]:
            for stuff in stuffs_of(rule):
                amounts = [ever(rule, product, stuff) for product in names_of(rule)]
                told = certify_never(rule, stuff)
                if None in amounts:
                    self.assertIsNone(told)
                    none += 1
                    continue
                claim, paper = told
                most = max(amounts, key=lambda pair: Fraction(*pair))
                self.assertEqual(claim, ("never", str(rule.works), str(rule), stuff, most))
                worth(self, claim[4])
                self.assertIs(accepts(claim, paper), True, str(rule))
                self.assertIs(judged(claim, paper), True, str(rule))
                if most[0]:
                    # There is none for less: rows come as near as one likes.
                    self.assertIs(accepts(claim[:4] + ((most[0] * 10 ** 9 - 1, most[1] * 10 ** 9),), paper), False)
        self.assertGreater(none, 20)

    def test_one_that_grows_without_end_is_enough(self):
        rule = Rule(SMALL, "mixer", (("bar", "bar", "-"),))
        self.assertEqual(certify_never(rule, "nuts")[0][4], (250, 1))
        works = SMALL.read(str(SMALL).replace("100 200", "0 1000"))
        self.assertIsNone(certify_never(Rule(works, "mixer", rule.table), "nuts"))
        self.assertEqual(certify_never(Rule(works, "mixer", (("bar", "cake", "-"),)), "nuts")[0][4], (1000, 1))

    def test_a_rule_without_a_table(self):
        claim, paper = certify_never(Rule(SMALL, "mixer", ()), "nuts")
        self.assertEqual(claim, ("never", str(SMALL), "rule mixer", "nuts", (0, 1)))
        self.assertIs(accepts(claim, paper), True)

    def test_refused(self):
        for rule in OTHERS + (0, SMALL, CLEAN, str(RULE)):
            check(self, NotARule, "given", rule, certify_never, rule, "nuts")
            check(self, NotARule, "given", rule, certify_never, stuff=None, rule=rule)
        for stuff in OTHERS + (0, "bar", "mixer", "milk", ("nuts",), ["nuts"]):
            check(self, UnknownName, "given", stuff, certify_never, RULE, stuff)


class Above(unittest.TestCase):
    def test_all_is_accepted(self):
        none = some = endless = 0
        for rule in RULES + [greatest_rule(seed) for seed in range(2)]:
            for product in names_of(rule):
                for stuff in stuffs_of(rule):
                    most = ever(rule, product, stuff)
                    whole = most[0] // most[1] if most else 7
                    for bound in {min(10 ** 13, max(0, one)) for one in (0, whole - 1, whole, whole + 1, 10 ** 13)}:
                        told = certify_above(rule, product, stuff, bound)
                        if most and most[0] <= bound * most[1]:
                            self.assertIsNone(told)
                            none += 1
                            continue
                        claim, paper = told
                        self.assertEqual(claim, ("above", str(rule.works), str(rule), product, stuff, (bound, 1)))
                        self.assertIs(accepts(claim, paper), True, str(rule))
                        self.assertIs(judged(claim, paper), True, str(rule))
                        self.assertTrue(is_way(rule, paper, product))
                        reached = limit(rule, *paper, product, stuff)
                        self.assertTrue(reached is None or reached > bound)
                        some += 1
                        endless += most is None
        self.assertGreater(min(none, some, endless), 100)

    def test_against_all_ways_back(self):
        for rule in RULES[:60]:
            for product in names_of(rule):
                told = all_ever(rule, product, "nuts")
                for bound in (0, 3, 300):
                    self.assertIs(certify_above(rule, product, "nuts", bound) is None,
                                  told is not None and told <= bound)

    def test_nothing_is_not_above_nothing(self):
        self.assertIsNone(certify_above(Rule(SMALL, "mixer", ()), "bar", "nuts", 0))
        self.assertEqual(certify_above(Rule(SMALL, "mixer", (("bar", "cake", "-"),)), "cake", "nuts", 0), (
            ("above", str(SMALL), "rule mixer\nbar cake -", "cake", "nuts", (0, 1)), ((), ("bar",))))

    def test_refused(self):
        for rule in OTHERS + (0, SMALL, CLEAN, str(RULE)):
            check(self, NotARule, "given", rule, certify_above, rule, "bar", "nuts", 0)
            check(self, NotARule, "given", rule, certify_above, number=None, stuff=None, product=None, rule=rule)
        for product in OTHERS + (0, "nuts", "mixer", "roll", ("bar",), ["bar"]):
            check(self, UnknownName, "given", product, certify_above, RULE, product, "nuts", 0)
            check(self, UnknownName, "given", product, certify_above, RULE, product, None, None)
        for stuff in OTHERS + (0, "bar", "mixer", "milk", ("nuts",), ["nuts"]):
            check(self, UnknownName, "given", stuff, certify_above, RULE, "bar", stuff, 0)
            check(self, UnknownName, "given", stuff, certify_above, RULE, "bar", stuff, -1)
        for bound in OTHERS + (-1, 10 ** 13 + 1, "0", (0, 1), (0,), [0]):
            check(self, InvalidBound, "given", bound, certify_above, RULE, "bar", "nuts", bound)
        self.assertIsNone(certify_above(RULE, "bar", "nuts", 10 ** 13))
        self.assertIsNotNone(certify_above(RULE, "bar", "nuts", 0))


class Unchanged(unittest.TestCase):
    def test_nothing_is_changed(self):
        for plan in PLANS[:10]:
            before = (str(plan), str(plan.works), plan.deeds)
            certify_most(plan, 0, "nuts")
            certify_reached(plan, 0, "nuts")
            self.assertEqual((str(plan), str(plan.works), plan.deeds), before)
        for rule in RULES[:10]:
            before = (str(rule), str(rule.works), rule.table)
            certify_never(rule, "nuts")
            certify_above(rule, names_of(rule)[0], "nuts", 0)
            self.assertEqual((str(rule), str(rule.works), rule.table), before)


if __name__ == "__main__":
    unittest.main()
