import random
import unittest
from fractions import Fraction

from forward import greatest_plan, small_plans
from judge import is_fraction, judged, number
from samples import CLEAN, DIRTY, OTHERS, RULE, SMALL, Always, nested
from ways import all_ever, greatest_rule, names_of, some_rules, stuffs_of

from tracebounds.amounts import greatest
from tracebounds.certificates import certify_above, certify_most, certify_never, certify_reached
from tracebounds.checker import accepts
from tracebounds.ever import ever
from tracebounds.plans import Plan
from tracebounds.rules import Rule
from tracebounds.works import Works

WORKS = str(SMALL)
# Run bar, run cake: 0.9 of what is on the mixer ahead of the cake, and 0.2 of the bar is there.
MOST = ("most", WORKS, str(DIRTY), 1, "nuts", (180, 1)), (((9, 50),), ((9, 10),))
REACHED = ("reached", WORKS, str(CLEAN), 1, "nuts", (18, 1)), ((1000, ((1, 5),)), (1, 10), (0, ((1, 10),)))
NEVER = ("never", WORKS, str(RULE), "nuts", (250, 1)), (250, 25)
ABOVE = ("above", WORKS, str(RULE), "cake", "nuts", (24, 1)), (("bar",), ("bar",))
ALL = (MOST, REACHED, NEVER, ABOVE)
WORDS = ("most", "reached", "never", "above")
ODD = OTHERS + (0, 1, "x", "nuts", "bar", (1, 0), (0, 0), (1, -1), (-1, 1), (2, 2), (0, 2), (1, True), (True, 1), (1, 1, 1),
                (1,), [1, 1], ((1, 1),), (1, "1"), (1, None), -1, -1000, nested(1, 20))


def changed(claim, at, value):
    """The tuple with this value in this place."""
    return claim[:at] + (value,) + claim[at + 1:]


def bent(value):
    """This value with something of it bent, in many ways."""
    if isinstance(value, tuple):
        yield list(value)
        yield value + (0,)
        yield value + value[-1:]
        yield (value,)
        yield value[::-1]
        if is_fraction(value):
            yield (value[0] * 2, value[1] * 2)
            yield (value[0] * 3 - 1, value[1] * 3)
            yield (value[0] * 3 + 1, value[1] * 3)
            yield (value[0], -value[1])
            yield (-value[0], -value[1])
        for at in range(len(value)):
            yield value[:at] + value[at + 1:]
            for other in bent(value[at]):
                yield value[:at] + (other,) + value[at + 1:]
    elif isinstance(value, str):
        yield from (None, value + "x", value + "\n", value + " ", value[:-1], value.upper(), value.encode(), [value],
                    value.replace("0", "1"), value.replace("bar", "cake"), value.replace("-", "rinse"))
    elif isinstance(value, int):
        yield from (value + 1, value - 1, -value, 2 * value, (value, 1), (2 * value, 2), (3 * value + 1, 3),
                    (3 * value - 1, 3), (value, 1000), True, None, str(value), [value], (value,))


class Accepted(unittest.TestCase):
    def test_right_ones(self):
        for claim, paper in ALL:
            self.assertIs(accepts(claim, paper), True)
            self.assertIs(accepts(certificate=paper, claim=claim), True)
            self.assertIs(judged(claim, paper), True)

    def test_the_examples(self):
        above = ("above", WORKS, str(RULE), "cake", "nuts")
        claim, paper = certify_most(DIRTY, 1, "nuts")
        self.assertEqual(
            [claim[0], claim[3:], accepts(claim, paper), accepts(claim[:5] + ((179, 1),), paper)],
            ["most", (1, "nuts", (180, 1)), True, False])
        self.assertEqual(
            [accepts(above + ((24, 1),), (("bar",), ("bar",))), accepts(above + ((20, 1),), ((), ("bar",)))],
            [True, False])

    def test_numbers_as_one_likes(self):
        claim, _ = MOST
        for rows in ((((9, 50),), (1,)), (((1, 5),), (1,)), ((1,), ((1, 1),)), ((10 ** 30,), ((9, 10),))):
            self.assertEqual(accepts(claim, rows), judged(claim, rows))
        claim, _ = NEVER
        for paper in ((250, 25), ((250, 1), (25, 1)), (250, (25, 1)), (250, 250), (250, (51, 2))):
            self.assertIs(accepts(claim, paper), True)
        claim, _ = REACHED
        for paper in (((1000, ((1, 5),)), (1, 10), ((0, 1), ((1, 10),))), (((1000, 1), ((1, 5),)), (1, 10), (0, ((1, 10),)))):
            self.assertIs(accepts(claim, paper), True)

    def test_none_of_them_for_another_claim(self):
        for claim, right in ALL:
            for _, paper in ALL:
                self.assertIs(accepts(claim, paper), paper is right)


class Bent(unittest.TestCase):
    def both(self, claim, paper):
        told = accepts(claim, paper)
        self.assertIs(told, judged(claim, paper), (claim, paper))
        return told

    def test_values_of_any_kind(self):
        for claim, paper in ALL:
            for value in ODD:
                self.assertIs(accepts(value, paper), False)
                self.assertIs(accepts(claim, value), False)
                self.assertIs(accepts(value, value), False)
                for at in range(len(claim)):
                    self.both(changed(claim, at, value), paper)
                for at in range(len(paper)):
                    self.both(claim, changed(paper, at, value))
                    if isinstance(paper[at], tuple):
                        for within in range(len(paper[at])):
                            self.both(claim, changed(paper, at, changed(paper[at], within, value)))

    def test_other_words(self):
        for claim, paper in ALL:
            for word in WORDS + ("Most", "most ", "at most", "at least", "keeps", "ever", "", b"most", None, 0, Always(),
                                 ("most",), ["most"]):
                self.assertIs(accepts((word,) + claim[1:], paper), type(word) is str and word == claim[0])

    def test_lengths_and_lists(self):
        for claim, paper in ALL:
            for many in range(len(claim)):
                self.assertIs(accepts(claim[:many], paper), False)
                self.assertIs(accepts(claim[:many] + claim[many + 1:], paper), False)
            for more in (None, 0, (1, 1), "nuts", claim[-1]):
                self.assertIs(accepts(claim + (more,), paper), False)
            for one, two in ((list(claim), paper), (claim, list(paper)), (claim[:-1] + (list(claim[-1]),), paper),
                             (claim, paper + paper[:1]), (claim, paper[:-1]), (claim, ()), (claim, (paper,)),
                             ((claim,), paper), (claim, None), (None, paper)):
                self.assertIs(accepts(one, two), False)

    def test_texts(self):
        for claim, paper in ALL:
            for at in (1, 2):
                for text in (claim[at] + "\n", "\n" + claim[at], claim[at] + " ", claim[at][:-1], "", claim[3 - at],
                             claim[at].replace(" ", "  "), claim[at].replace("mixer", "oven"), claim[at].encode(),
                             claim[at].split("\n"), (claim[at],), SMALL, CLEAN, RULE, None, 0):
                    self.assertIs(accepts(changed(claim, at, text), paper), False)
        # Other works with the same names: the bounds are theirs.
        for claim, paper in ALL:
            for one, other in (("100 200", "100 199"), ("100 200", "0 200"), ("100 200", "100 300"), ("0 100", "0 99"),
                               ("0 100", "0 101"), ("1000-1000", "0-999"), ("1000-1000", "0-1001"), ("0-0", "0-9"),
                               ("nuts 30", "nuts 0"), ("nuts 30", "nuts 300")):
                self.both(changed(claim, 1, claim[1].replace(one, other)), paper)
        self.assertIs(accepts(changed(MOST[0], 1, WORKS.replace("100 200", "0 200")), MOST[1]), False)
        self.assertIs(accepts(changed(NEVER[0], 1, WORKS.replace("0 100", "0 101")), NEVER[1]), False)
        self.assertIs(accepts(changed(REACHED[0], 1, WORKS.replace("0 100", "0 99")), REACHED[1]), False)
        self.assertIs(accepts(changed(MOST[0], 1, WORKS.replace("nuts 30", "nuts 0")), MOST[1]), True)

    def test_lots_stuffs_and_products_that_are_not_there(self):
        for claim, paper in (MOST, REACHED):
            for lot in OTHERS + (2, -1, "1", (1,), [1]):
                self.assertIs(accepts(changed(claim, 3, lot), paper), False)
        for claim, paper in ALL:
            for stuff in OTHERS + (0, "bar", "milk", "Nuts", ("nuts",), ["nuts"]):
                self.assertIs(accepts(changed(claim, len(claim) - 2, stuff), paper), False)
        for product in OTHERS + (0, "nuts", "roll", "Cake", ("cake",), ["cake"]):
            self.assertIs(accepts(changed(ABOVE[0], 3, product), ABOVE[1]), False)

    def test_bounds_that_are_no_fractions(self):
        for claim, paper in ALL:
            top, _ = claim[-1]
            for bound in ODD + (top, (top, 0), (2 * top, 2), (-top, -1), (top, True), (top,), [top, 1], (top, 1, 1),
                                (str(top), 1), (top, "1"), ((top, 1), 1), (top, None), (-1, 1), (0, 0), (0, 2)):
                if not is_fraction(bound):
                    self.assertIs(accepts(claim[:-1] + (bound,), paper), False, bound)
        # 0 is (0, 1).
        nothing = ("reached", WORKS, str(CLEAN), 1, "nuts", (0, 1))
        self.assertIs(accepts(nothing, REACHED[1]), True)
        self.assertIs(accepts(nothing[:-1] + ((0, 2),), REACHED[1]), False)
        self.assertIs(accepts(nothing[:-1] + ((0, -1),), REACHED[1]), False)

    def test_bounds_a_little_too_small_or_too_great(self):
        small, tiny = Fraction(1, 10 ** 6), Fraction(1, 10 ** 300)
        for (claim, paper), edge, sign in ((MOST, 180, 1), (REACHED, 18, -1), (NEVER, 250, 1), (ABOVE, 25, -1)):
            for step in (small, tiny, Fraction(1, 3)):
                for beyond in (step, -step, 0):
                    bound = edge + beyond
                    right = beyond * sign > 0 or (beyond == 0 and claim[0] != "above")
                    bound = (bound.numerator, bound.denominator)
                    self.assertIs(accepts(claim[:-1] + (bound,), paper), right, (claim[0], bound))

    def test_each_part_bent(self):
        right = wrong = 0
        for claim, paper in ALL:
            for other in bent(claim):
                self.both(other, paper)
            for other in bent(paper):
                told = self.both(claim, other)
                right, wrong = right + told, wrong + (not told)
        self.assertGreater(wrong, 300)
        self.assertGreater(right, 3)

    def test_each_part_bent_of_others(self):
        dice = random.Random(0)
        right = wrong = 0
        for claim, paper in some_papers():
            bent_papers = list(bent(paper))
            for other in dice.sample(bent_papers, min(len(bent_papers), 60)):
                told = self.both(claim, other)
                right, wrong = right + told, wrong + (not told)
            bent_claims = list(bent(claim))
            for other in dice.sample(bent_claims, min(len(bent_claims), 20)):
                self.both(other, paper)
            # A little to each side of what is claimed.
            edge = Fraction(*claim[-1])
            for bound in (edge + 1, edge + Fraction(1, 7), max(0, edge - Fraction(1, 7)), max(0, edge - 1)):
                bound = Fraction(bound)
                self.both(claim[:-1] + ((bound.numerator, bound.denominator),), paper)
        self.assertGreater(wrong, 3000)
        self.assertGreater(right, 300)


def some_papers():
    """Claims with certificates for many plans and rules."""
    for plan in small_plans(40):
        for lot in range(len(plan)):
            yield certify_most(plan, lot, "nuts")
            yield certify_reached(plan, lot, "nuts")
    for rule in some_rules(60):
        for stuff in stuffs_of(rule):
            if certify_never(rule, stuff):
                yield certify_never(rule, stuff)
            for product in names_of(rule):
                most = ever(rule, product, stuff)
                if most is None or most[0] > 0:
                    whole = 5 if most is None else max(0, (most[0] - 1) // most[1])
                    yield certify_above(rule, product, stuff, whole)


class Truth(unittest.TestCase):
    """What is accepted is true."""

    def test_whatever_the_certificates_are(self):
        dice = random.Random(7)
        accepted = {word: 0 for word in WORDS}
        for claim, paper in some_papers():
            edge = Fraction(*claim[-1])
            for _ in range(12):
                bound = max(Fraction(0), edge + dice.choice((-1, 0, 1)) * Fraction(dice.randrange(30), 7))
                other = dice.choice(list(bent(paper)) + [paper])
                new = claim[:-1] + ((bound.numerator, bound.denominator),)
                if accepts(new, other):
                    accepted[claim[0]] += 1
                    self.assertTrue(self.is_true(new), (new, other))
        self.assertGreater(min(accepted.values()), 20)

    def is_true(self, claim):
        works = Works.read(claim[1])
        bound = Fraction(*claim[-1])
        if claim[0] in ("most", "reached"):
            amount = Fraction(*greatest(Plan.read(works, claim[2]), *claim[3:5]))
            return amount <= bound if claim[0] == "most" else amount >= bound
        rule = Rule.read(works, claim[2])
        if claim[0] == "never":
            return all(all_ever(rule, product, claim[3]) is not None and all_ever(rule, product, claim[3]) <= bound
                       for product in names_of(rule))
        told = all_ever(rule, claim[3], claim[4])
        return told is None or told > bound


class Most(unittest.TestCase):
    def test_numbers_a_little_too_small(self):
        claim, _ = MOST
        for rows, right in (
            ((((9, 50),), ((9, 10),)), True), ((((89, 500),), ((9, 10),)), False), ((((9, 50),), ((899, 1000),)), False),
            # More than is needed on the machine ahead of the first lot plays no part in the sum.
            (((1,), ((9, 10),)), True), ((((9, 50),), ((901, 1000),)), False), (((1,), ((901, 1000),)), False),
        ):
            self.assertIs(accepts(claim, rows), right, rows)
        self.assertIs(accepts(claim[:-1] + ((901, 5),), ((1,), ((901, 1000),))), True)

    def test_what_a_deed_does_not_touch(self):
        works = Works.read("machine a 0 500\nmachine b 0 1000\ncleaning c 100 200\nstuff nuts 0\nproduct bar 0-10")
        plan = Plan(works, (("run", "bar", ("a",)), ("clean", "b", "c"), ("run", "bar", ("b",)), ("run", "bar", ("a",))))
        claim = ("most", str(works), str(plan), 2, "nuts", (15, 1))
        right = (((1, 2), 0), (1, 0), (1, 0), (1, 0))
        self.assertIs(accepts(claim, right), True)
        for at in range(1, 3):
            self.assertIs(accepts(claim, changed(right, at, ((999, 1000), 0))), False)
        # Numbers for the other machine that nothing asks for must be handed on all the same.
        self.assertIs(accepts(claim, (((1, 2), 0), (1, 0), (1, 0), (1, 1))), False)
        claim = claim[:-1] + ((25, 1),)
        self.assertIs(accepts(claim, (((1, 2), 1), (1, 1), (1, 1), (1, 1))), True)
        self.assertIs(accepts(claim, (((1, 2), (1, 5)), (1, (1, 5)), (1, 1), (1, 1))), True)
        self.assertIs(accepts(claim, (((1, 2), (1, 6)), (1, (1, 5)), (1, 1), (1, 1))), False)
        self.assertIs(accepts(claim, (((1, 2), (1, 5)), (1, (1, 6)), (1, 1), (1, 1))), False)

    def test_the_greater_end_may_be_either_one(self):
        works = Works.read("machine a 250 750\nstuff nuts 0\nproduct bar 4-8")
        plan = Plan.read(works, "run bar a\nrun bar a")
        # The last lot: the low hold, 3/4; the first one: 3/4 of it by the high one.
        claim = ("most", str(works), str(plan), 1, "nuts", (21, 2))
        self.assertIs(accepts(claim, (((9, 16),), ((3, 4),))), True)
        self.assertIs(accepts(claim, (((1, 2),), ((3, 4),))), False)
        self.assertIs(accepts(claim, (((9, 16),), ((1, 2),))), False)
        self.assertIs(accepts(claim[:-1] + ((104, 10),), (((9, 16),), ((3, 4),))), False)
        self.assertIs(accepts(claim[:-1] + ((52, 5),), (((9, 16),), ((3, 4),))), False)

    def test_the_first_lot_and_what_comes_behind_it(self):
        claim = ("most", WORKS, str(CLEAN), 0, "nuts", (900, 1))
        self.assertIs(accepts(claim, (((9, 10),),)), True)
        self.assertIs(accepts(claim, (((9, 10),), (0,))), False)
        self.assertIs(accepts(claim, (((9, 10),), (0,), (0,))), False)
        self.assertIs(accepts(claim, ()), False)
        self.assertIs(accepts(claim[:-1] + ((899, 1),), (((9, 10),),)), False)

    def test_through_several_machines(self):
        works = Works.read("machine a 500 500\nmachine b 0 1000\nmachine c 1 1\nstuff nuts 0\nproduct bar 0-8")
        plan = Plan.read(works, "run bar a b\nrun bar b a")
        claim, paper = certify_most(plan, 1, "nuts")
        # Half of what comes to a goes on at last: of the second lot, and of what the first one leaves on a and on b.
        half = ((1, 2), (1, 2), (0, 1))
        self.assertEqual((claim[-1], paper), ((8, 1), (half, half)))
        self.assertIs(accepts(claim, paper), True)
        self.assertEqual(greatest(plan, 1, "nuts"), claim[-1])
        for at in range(2):
            for machine in range(2):
                low = changed(paper, at, changed(paper[at], machine, (1, 4)))
                self.assertIs(accepts(claim, low), judged(claim, low))


class Reached(unittest.TestCase):
    def test_contents_and_shares_within_their_bounds(self):
        claim, _ = REACHED
        claim = claim[:-1] + ((0, 1),)
        run, clean, last = (1000, ((1, 5),)), (1, 10), (0, ((1, 10),))
        for content, right in ((1000, True), (999, False), (1001, False), ((1999, 2), False), ((1000, 1), True),
                               ((2000, 2), False), (-1, False), (None, False), ("1000", False)):
            self.assertIs(accepts(claim, ((content, ((1, 5),)), clean, last)), right, content)
        for hold, right in (((1, 10), True), ((3, 20), True), ((1, 5), True), ((99, 1000), False), ((201, 1000), False),
                            ((1, 9), True), ((2, 10), False), (0, False), (1, False), (200, False), (100, False)):
            self.assertIs(accepts(claim, ((1000, (hold,)), clean, last)), right, hold)
            self.assertIs(accepts(claim, (run, clean, (0, (hold,)))), right, hold)
        for keep, right in ((0, True), ((1, 10), True), ((1, 100), True), ((101, 1000), False), (1, False), ((0, 1), True),
                            ((1, 10 ** 300), True), (100, False), ((1, 5), False)):
            self.assertIs(accepts(claim, (run, keep, last)), right, keep)

    def test_forms(self):
        claim, (run, clean, last) = REACHED
        for other in ((run, (clean,), last), (clean, clean, last), (run, run, last), (run, clean, (0, (1, 10))),
                      (run, clean, (0, [(1, 10)])), (run, clean, [0, ((1, 10),)]), (run, clean, (0, ((1, 10),), 0)),
                      (run, clean, (0,)), (run, clean, (0, ())), (run, clean, (0, ((1, 10), (1, 10)))),
                      (run, clean), (run, last), (run, clean, last, clean), (run, clean, clean)):
            self.assertIs(accepts(claim, other), False, other)

    def test_what_comes_behind_plays_no_part(self):
        claim = ("reached", WORKS, str(CLEAN), 0, "nuts", (900, 1))
        self.assertIs(accepts(claim, ((1000, ((1, 10),)),)), True)
        self.assertIs(accepts(claim, ((1000, ((1, 10),)), 0)), False)
        self.assertIs(accepts(claim[:-1] + ((901, 1),), ((1000, ((1, 10),)),)), False)
        self.assertIs(accepts(claim, ((1000, ((1, 5),)),)), False)
        self.assertIs(accepts(claim[:-1] + ((800, 1),), ((1000, ((1, 5),)),)), True)

    def test_amounts_between_the_ends(self):
        works = Works.read("machine a 0 1000\nmachine b 250 750\ncleaning c 0 500\nstuff nuts 0\nproduct bar 2-8")
        plan = Plan.read(works, "run bar a b\nclean b c\nrun bar b")
        claim = ("reached", str(works), str(plan), 1, "nuts")
        # 6 * 2/3 come to b, half of 4 stays; 2/5 of it is left, and with 5 more three fifths go on.
        paper = ((6, ((1, 3), (1, 2))), (2, 5), (5, ((2, 5),)))
        self.assertIs(accepts(claim + ((87, 25),), paper), True)
        self.assertIs(accepts(claim + ((88, 25),), paper), False)
        self.assertEqual(judged(claim + ((87, 25),), paper), True)


class Never(unittest.TestCase):
    def test_numbers_a_little_too_small(self):
        claim, _ = NEVER
        for paper, right in (
            ((250, 25), True), (((2499, 10), 25), False), ((250, (249, 10)), False), ((250, 26), True), ((250, 250), True),
            ((251, 26), False), ((250, 251), False), ((250,), False), ((250, 25, 0), False), ((25, 250), False), ((), False),
        ):
            self.assertIs(accepts(claim, paper), right, paper)
        self.assertIs(accepts(claim[:-1] + ((300, 1),), (251, 26)), True)

    def test_a_rule_without_a_table(self):
        claim = ("never", WORKS, "rule mixer", "nuts", (0, 1))
        self.assertIs(accepts(claim, (0, 0)), True)
        self.assertIs(accepts(claim, ((0, 1), 0)), True)
        self.assertIs(accepts(claim, (0, (1, 10 ** 30))), False)
        self.assertIs(accepts(claim, (0,)), False)

    def test_not_without_end(self):
        works = WORKS.replace("100 200", "0 1000")
        claim = ("never", works, str(RULE), "nuts", (10 ** 13, 1))
        for paper in ((10 ** 13, 10 ** 13), (10 ** 13, 0), (0, 0)):
            self.assertIs(accepts(claim, paper), False)
        # Behind a cleaning that leaves nothing all is well.
        works = works.replace("rinse 0 100", "rinse 0 0")
        claim = ("never", works, "rule mixer\nbar bar rinse\nbar cake rinse\ncake cake -", "nuts", (0, 1))
        self.assertIs(accepts(claim, (0, 0)), True)


class Above(unittest.TestCase):
    def above(self, paper, bound=(0, 1), table="", product="cake", works=WORKS):
        rule = "rule mixer" + "".join("\n" + row for row in table) if table else str(RULE)
        claim = ("above", works, rule, product, "nuts", bound)
        told = accepts(claim, paper)
        self.assertIs(told, judged(claim, paper))
        return told

    def test_without_a_ring(self):
        self.assertTrue(self.above(((), ("bar",)), (19, 1)))
        self.assertFalse(self.above(((), ("bar",)), (20, 1)))
        self.assertTrue(self.above(((), ("bar", "bar")), (23, 1)))
        self.assertFalse(self.above(((), ("bar", "bar")), (24, 1)))
        self.assertTrue(self.above(((), ("bar",) * 24), (24, 1)))
        self.assertFalse(self.above(((), ())))
        self.assertFalse(self.above(((), ("cake",))))

    def test_with_a_ring(self):
        self.assertTrue(self.above((("bar",), ("bar",)), (249, 10)))
        self.assertFalse(self.above((("bar",), ("bar",)), (25, 1)))
        self.assertTrue(self.above((("bar",), ("bar",)), (249, 1), product="bar"))
        self.assertFalse(self.above((("bar",), ("bar",)), (250, 1), product="bar"))

    def test_forms(self):
        for paper in ((("bar",), ()), (("bar",),), (("bar",), ("bar",), ()), ("bar", "bar"), (("bar",), "bar"),
                      ("bar", ("bar",)), (["bar"], ("bar",)), (("bar",), ["bar"]), ((), ["bar"]), ([], ("bar",)),
                      (("roll",), ("bar",)), (("bar",), ("roll",)), ((None,), ("bar",)), (("bar",), (0,)),
                      ((("bar",),), ("bar",)), (("bar",), (Always(),)), ((Always(),), ("bar",)), ((), (["bar"],)), ((), ({},)),
                      {"ring": ("bar",), "tail": ("bar",)}, ((), None), (None, ("bar",)), ((),), ()):
            self.assertFalse(self.above(paper), paper)

    def test_rows(self):
        table = ("bar cake -", "cake bar -", "bar bar rinse")
        self.assertTrue(self.above((("bar", "cake"), ("bar",)), (1, 1), table))
        self.assertTrue(self.above((("cake", "bar"), ("cake", "bar")), (1, 1), table))
        self.assertTrue(self.above((("cake", "bar"), ("bar",)), (1, 1), table))
        # The ring is not closed; the tail does not begin at it; the product may not follow.
        self.assertFalse(self.above((("cake",), ("bar",)), (1, 1), table))
        self.assertFalse(self.above((("cake", "bar", "cake"), ("bar",)), (1, 1), table))
        self.assertFalse(self.above((("bar", "cake"), ("cake", "bar")), (1, 1), table))
        self.assertFalse(self.above((("bar", "cake"), ("bar", "cake")), (1, 1), table))
        self.assertFalse(self.above(((), ("cake", "cake", "bar")), (1, 1), table))
        self.assertFalse(self.above((("bar", "bar"), ("cake",)), (1, 1), table))
        self.assertTrue(self.above((("bar", "bar"), ("bar", "cake")), (1, 1), table, "bar"))

    def test_the_tail_may_begin_elsewhere_than_the_ring(self):
        table = ("bar bar -", "bar cake -", "cake cake -")
        self.assertTrue(self.above((("bar",), ("cake",)), (49, 1), table))
        self.assertFalse(self.above((("bar",), ("cake",)), (50, 1), table))

    def test_at_most_24_products(self):
        for ring, tail, right in ((1, 23, True), (1, 24, False), (23, 1, True), (24, 1, False), (12, 12, True), (12, 13, False),
                                  (0, 24, True), (0, 25, False), (24, 0, False), (25, 0, False)):
            self.assertIs(self.above((("bar",) * ring, ("bar",) * tail), (20, 1)), right)

    def test_without_end(self):
        works = WORKS.replace("100 200", "0 1000")
        for bound in ((0, 1), (10 ** 13, 1), (10 ** 400, 3)):
            self.assertTrue(self.above((("bar",), ("bar",)), bound, works=works))
            self.assertTrue(self.above((("bar",), ("bar",)), bound, product="bar", works=works))
            self.assertTrue(self.above((("bar", "bar"), ("cake", "cake")), bound,
                                       ("bar bar -", "bar cake -", "cake cake -"), works=works))
        # Nothing in the ring: nothing grows.
        self.assertFalse(self.above((("cake",), ("cake",)), works=works))
        # Without a ring nothing grows without end.
        self.assertFalse(self.above(((), ("bar",) * 24), (24000, 1), works=works, product="bar"))
        self.assertTrue(self.above(((), ("bar",) * 24), (23999, 1), works=works, product="bar"))

    def test_behind_a_factor_of_nothing(self):
        works = WORKS.replace("100 200", "0 1000").replace("0 100\n", "0 0\n")
        self.assertFalse(self.above((("bar",), ("bar",)), works=works))
        self.assertTrue(self.above((("bar",), ("bar",)), works=works, product="bar"))
        table = ("bar bar -", "bar cake rinse", "cake cake -", "cake bar -")
        self.assertFalse(self.above((("bar",), ("bar", "cake")), (0, 1), table, works=works))
        self.assertTrue(self.above((("bar",), ("bar", "cake", "bar")), (999, 1), table, "bar", works=works))
        self.assertFalse(self.above((("bar",), ("bar", "cake", "bar")), (1000, 1), table, "bar", works=works))
        # A factor of nothing in the ring: it comes to what one time through it leaves.
        self.assertTrue(self.above((("bar", "bar", "cake"), ("bar", "bar")), (1999, 1), table, "bar", works=works))
        self.assertFalse(self.above((("bar", "bar", "cake"), ("bar", "bar")), (2000, 1), table, "bar", works=works))


class TheGreatest(unittest.TestCase):
    def test_plans(self):
        for seed in range(3):
            plan = greatest_plan(seed)
            for lot in (0, 3, 7):
                for certify in (certify_most, certify_reached):
                    claim, paper = certify(plan, lot, "nuts")
                    self.assertIs(accepts(claim, paper), True)
                    self.assertIs(judged(claim, paper), True)
                    edge = Fraction(*claim[-1])
                    for step in (Fraction(1, 10 ** 200), -Fraction(1, 10 ** 200)):
                        bound = edge + step
                        self.assertIs(accepts(claim[:-1] + ((bound.numerator, bound.denominator),), paper),
                                      (step > 0) == (claim[0] == "most"))
            claim, paper = certify_most(plan, 7, "nuts")
            for at, row in enumerate(paper):
                for machine, value in enumerate(row):
                    less = number(value) * (1 - Fraction(1, 10 ** 100))
                    low = changed(paper, at, changed(row, machine, (less.numerator, less.denominator)))
                    self.assertIs(accepts(claim, low), judged(claim, low))

    def test_rules(self):
        for seed in range(3):
            rule = greatest_rule(seed)
            claim, paper = certify_never(rule, "sa")
            self.assertIs(accepts(claim, paper), True)
            for at in range(8):
                less = number(paper[at]) * (1 - Fraction(1, 10 ** 60))
                low = changed(paper, at, (less.numerator, less.denominator))
                self.assertIs(accepts(claim, low), judged(claim, low))
            for product in names_of(rule):
                paper = certify_above(rule, product, "sa", 0)[1]
                edge = Fraction(*ever(rule, product, "sa"))
                for bound in (edge, edge - Fraction(1, 10 ** 60), edge + Fraction(1, 10 ** 60)):
                    claim = ("above", str(rule.works), str(rule), product, "sa", (bound.numerator, bound.denominator))
                    self.assertIs(accepts(claim, paper), bound < edge)

    def test_numbers_of_400_digits(self):
        great = 10 ** 399
        claim = ("most", WORKS, str(DIRTY), 1, "nuts", (great, 1))
        self.assertIs(accepts(claim, ((great,), ((9, 10),))), True)
        self.assertIs(accepts(claim, ((great,), ((great, great + 1),))), True)
        self.assertIs(accepts(claim, ((great,), (great,))), False)
        self.assertIs(accepts(("never", WORKS, str(RULE), "nuts", (great, 1)), (great, great)), True)
        self.assertIs(accepts(("never", WORKS, str(RULE), "nuts", (great - 1, 1)), (great, great)), False)

    def test_nothing_is_changed(self):
        rows = [[1], [1]]
        self.assertIs(accepts(MOST[0], rows), False)
        self.assertIs(accepts(MOST[0], (rows[0], rows[1])), False)
        self.assertEqual(rows, [[1], [1]])


if __name__ == "__main__":
    unittest.main()
