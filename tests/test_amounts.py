import random
import unittest

from forward import (
    all_ends,
    alone,
    contents_of,
    farthest,
    greatest_plan,
    inside,
    led,
    renamed,
    shares_of,
    small_plans,
    turned,
)
from samples import ANYTHING, BIG, CLEAN, DIRTY, OTHERS, RULE, SMALL, check, worth

from tracebounds.amounts import greatest, idle, least, verdict, weights
from tracebounds.errors import InvalidLot, NotAPlan, UnknownName
from tracebounds.plans import Plan
from tracebounds.works import Works

PLANS = small_plans(60)
CALLS = (greatest, least, verdict)


def one_machine(hold, keep, bar, cake, limit=30):
    """Works with one of most things; bounds of a hold, of a keep and of contents."""
    return Works((("mixer", *hold),), (("rinse", *keep),), (("nuts", limit),), (("bar", (bar,)), ("cake", (cake,))))


class Examples(unittest.TestCase):
    def test_amounts(self):
        self.assertEqual(
            [greatest(DIRTY, 1, "nuts"), least(DIRTY, 1, "nuts"), greatest(CLEAN, 1, "nuts"), least(CLEAN, 1, "nuts"),
             greatest(DIRTY, 0, "nuts")],
            [(180, 1), (80, 1), (18, 1), (0, 1), (900, 1)])

    def test_verdicts(self):
        self.assertEqual(
            [verdict(DIRTY, 1, "nuts"), verdict(CLEAN, 1, "nuts"), verdict(DIRTY, 0, "nuts"), weights(CLEAN, 1, True),
             idle(CLEAN), DIRTY.lots, str(CLEAN.without(0))],
            ["needed", "needless", "contained", ((9, 500), (9, 10)), (), ("bar", "cake"),
             "clean mixer rinse\nrun cake mixer"])

    def test_by_name(self):
        self.assertEqual(greatest(stuff="nuts", lot=1, plan=CLEAN), (18, 1))
        self.assertEqual(least(stuff="nuts", lot=1, plan=DIRTY), (80, 1))
        self.assertEqual(weights(most=True, lot=1, plan=CLEAN), ((9, 500), (9, 10)))
        self.assertEqual(verdict(stuff="nuts", lot=1, plan=DIRTY), "needed")
        self.assertEqual(idle(plan=CLEAN), ())


class Amounts(unittest.TestCase):
    def test_against_all_ends(self):
        for plan in PLANS:
            for stuff in ("nuts", "milk"):
                ends = all_ends(plan, stuff)
                for lot in range(len(plan)):
                    amounts = [amount[lot] for amount in ends]
                    told = worth(self, least(plan, lot, stuff)), worth(self, greatest(plan, lot, stuff))
                    self.assertEqual(told, (min(amounts), max(amounts)), (str(plan.works), str(plan)))

    def test_the_plans_bring_what_is_asked_for(self):
        """Several machines, several lots, cleanings in between, and machines on which nothing is yet."""
        self.assertTrue([plan for plan in PLANS if len(plan) == 3 and max(map(len, [d[2] for d in plan.deeds])) > 1])
        self.assertTrue([plan for plan in PLANS if [deed[0] for deed in plan.deeds][1:-1].count("clean") > 1])
        self.assertTrue([plan for plan in PLANS if plan.deeds[0][0] == "clean" and len(plan) > 1])
        holds = [share for plan in PLANS for row in plan.works.machines for share in row[1:]]
        keeps = [share for plan in PLANS for row in plan.works.cleanings for share in row[1:]]
        for shares in (holds, keeps):
            self.assertTrue(0 in shares and 1000 in shares)

    def test_holds_of_nothing_and_all(self):
        for hold, first, second in (((0, 0), ((5, 1), (9, 1)), ((0, 1), (2, 1))),
                                    ((1000, 1000), ((0, 1), (0, 1)), ((0, 1), (0, 1))),
                                    ((0, 1000), ((0, 1), (9, 1)), ((0, 1), (11, 1)))):
            plan = Plan.read(one_machine(hold, (0, 0), (5, 9), (0, 2)), "run bar mixer\nrun cake mixer")
            self.assertEqual((least(plan, 0, "nuts"), greatest(plan, 0, "nuts")), first)
            self.assertEqual((least(plan, 1, "nuts"), greatest(plan, 1, "nuts")), second)

    def test_keeps_of_nothing_and_all(self):
        for keep, told in (((0, 0), ((0, 1), (0, 1))), ((1000, 1000), ((80, 1), (180, 1))),
                           ((0, 1000), ((0, 1), (180, 1))), ((500, 500), ((40, 1), (90, 1)))):
            plan = Plan.read(one_machine((100, 200), keep, (1000, 1000), (0, 0)),
                             "run bar mixer\nclean mixer rinse\nrun cake mixer")
            self.assertEqual((least(plan, 1, "nuts"), greatest(plan, 1, "nuts")), told)

    def test_nothing_is_on_the_machines_at_first(self):
        works = Works((("mixer", 0, 1000), ("oven", 0, 1000)), (("rinse", 1000, 1000),), (("nuts", 1),),
                      (("bar", ((7, 7),)), ("cake", ((0, 0),))))
        plan = Plan.read(
            works, "clean mixer rinse\nrun cake mixer oven\nrun bar mixer\nrun cake oven\nrun cake oven mixer")
        self.assertEqual([greatest(plan, lot, "nuts") for lot in range(4)], [(0, 1), (7, 1), (0, 1), (7, 1)])

    def test_what_comes_behind_plays_no_part(self):
        for plan in PLANS:
            runs = [at for at, deed in enumerate(plan.deeds) if deed[0] == "run"]
            for lot, at in enumerate(runs):
                begin = Plan(plan.works, plan.deeds[:at + 1])
                for call in (greatest, least, verdict, weights):
                    self.assertEqual(call(plan, lot, "milk"), call(begin, lot, "milk"))

    def test_without_a_common_divisor(self):
        works = one_machine((333, 334), (1, 1), (1, 2), (0, 0))
        plan = Plan.read(works, "run bar mixer\nclean mixer rinse\nrun cake mixer")
        # 0.666 and 2 * 0.667; 0.001 * 0.333 * 0.666 and 2 * 0.001 * 0.334 * 0.667.
        self.assertEqual([least(plan, 0, "nuts"), greatest(plan, 0, "nuts")], [(333, 500), (667, 500)])
        self.assertEqual([least(plan, 1, "nuts"), greatest(plan, 1, "nuts")],
                         [(110889, 500000000), (111389, 250000000)])

    def test_plans_as_great_as_can_be(self):
        for seed in range(5):
            plan = greatest_plan(seed)
            self.assertEqual((len(plan), len(plan.deeds), len(shares_of(plan))), (8, 20, 44))
            dice = random.Random(seed)
            some = [inside(plan, "nuts", dice) for _ in range(20)]
            for lot in range(8):
                low, high = worth(self, least(plan, lot, "nuts")), worth(self, greatest(plan, lot, "nuts"))
                for found, sign in ((low, -1), (high, 1)):
                    contents, shares, counts = farthest(plan, "nuts", {lot: (1, 0)}, (sign, 0))
                    self.assertEqual(led(plan, contents, shares)[lot], found)
                    self.assertEqual([worth(self, pair) for pair in weights(plan, lot, sign == 1)],
                                     [pair[0] for pair in counts[:lot + 1]])
                for amounts in some:
                    self.assertTrue(low <= amounts[lot] <= high)
            self.assertGreater(greatest(plan, 7, "nuts")[1], 10 ** 60)

    def test_no_call_changes_the_plan(self):
        for plan in PLANS[:10]:
            before = (str(plan), str(plan.works))
            for lot in range(len(plan)):
                for call in (greatest, least, verdict):
                    self.assertEqual(call(plan, lot, "nuts"), call(plan, lot, "nuts"))
                self.assertEqual(weights(plan, lot, 1), weights(plan, lot, 2))
            self.assertEqual(idle(plan), idle(plan))
            self.assertEqual((str(plan), str(plan.works)), before)


class Weights(unittest.TestCase):
    def with_one(self, plan, at):
        """The plan with 1 of nuts in this lot, and nothing in the others."""
        names = [f"x{letter}" for letter in "abcdefgh"[:len(plan)]]
        works = Works(plan.works.machines, plan.works.cleanings, (("nuts", 0),),
                      tuple((name, ((int(at == k),) * 2,)) for k, name in enumerate(names)))
        left = iter(names)
        return Plan(works, tuple(
            ("run", next(left), deed[2]) if deed[0] == "run" else deed for deed in plan.deeds))

    def test_each_by_itself(self):
        for plan in PLANS:
            for at in range(len(plan)):
                ends = all_ends(self.with_one(plan, at), "nuts")
                for lot in range(at, len(plan)):
                    amounts = [amount[lot] for amount in ends]
                    self.assertEqual(worth(self, weights(plan, lot, True)[at]), max(amounts))
                    self.assertEqual(worth(self, weights(plan, lot, False)[at]), min(amounts))

    def test_one_for_each_lot_up_to_this_one(self):
        for plan in PLANS:
            for lot in range(len(plan)):
                for most in (True, False):
                    self.assertIs(type(weights(plan, lot, most)), tuple)
                    self.assertEqual(len(weights(plan, lot, most)), lot + 1)

    def test_with_the_contents_they_are_the_amount(self):
        for plan in PLANS:
            for lot in range(len(plan)):
                for stuff in ("nuts", "milk"):
                    for most, amount in ((True, greatest), (False, least)):
                        total = sum(worth(self, weight) * bounds[most] for weight, bounds in
                                    zip(weights(plan, lot, most), contents_of(plan, stuff)))
                        self.assertEqual(total, worth(self, amount(plan, lot, stuff)))

    def test_most_by_its_truth(self):
        high, low = weights(CLEAN, 1, True), weights(CLEAN, 1, False)
        self.assertEqual(low, ((0, 1), (4, 5)))
        for most in ANYTHING + (0, 1, 2, SMALL, DIRTY, Plan(SMALL, ()), "False", (False,), [0], "0"):
            self.assertEqual(weights(CLEAN, 1, most), high if most else low, most)
        self.assertEqual(weights(CLEAN, 1, Plan(SMALL, ())), high)


class Verdicts(unittest.TestCase):
    def told(self, limit):
        """The verdicts on the two lots; the second one has from 80 to 180."""
        plan = Plan.read(one_machine((100, 200), (0, 0), (1000, 1000), (0, 0), limit), "run bar mixer\nrun cake mixer")
        return [verdict(plan, lot, "nuts") for lot in (0, 1)]

    def test_at_the_limit_and_beside_it(self):
        for limit, word in ((0, "needed"), (79, "needed"), (80, "open"), (81, "open"), (179, "open"), (180, "needless"),
                            (181, "needless"), (10 ** 12, "needless")):
            self.assertEqual(self.told(limit), ["contained", word])

    def test_between_two_limits(self):
        """Amounts that are no whole numbers: from 0.8 to 1.8."""
        for limit, word in ((0, "needed"), (1, "open"), (2, "needless")):
            plan = Plan.read(one_machine((100, 200), (0, 0), (10, 10), (0, 0), limit), "run bar mixer\nrun cake mixer")
            self.assertEqual(verdict(plan, 1, "nuts"), word)

    def test_nothing_at_all(self):
        plan = Plan.read(one_machine((0, 1000), (0, 0), (0, 0), (0, 0), 0), "run bar mixer\nrun cake mixer")
        self.assertEqual([verdict(plan, lot, "nuts") for lot in (0, 1)], ["needless", "needless"])

    def test_contained_whatever_the_amount(self):
        for hold in ((1000, 1000), (0, 1000), (0, 0)):
            for limit in (0, 10 ** 12):
                for content in ((0, 1), (1, 1), (0, 10 ** 12)):
                    plan = Plan.read(one_machine(hold, (0, 0), content, (0, 0), limit), "run bar mixer")
                    self.assertEqual(verdict(plan, 0, "nuts"), "contained")

    def test_by_the_amounts(self):
        found = set()
        for plan in PLANS:
            for stuff in ("nuts", "milk"):
                ends = all_ends(plan, stuff)
                for lot, product in enumerate(plan.lots):
                    amounts = [amount[lot] for amount in ends]
                    limit = plan.works.limit(stuff)
                    word = "needed" if min(amounts) > limit else "needless" if max(amounts) <= limit else "open"
                    word = "contained" if plan.works.declares(product, stuff) else word
                    self.assertEqual(verdict(plan, lot, stuff), word)
                    found.add(word)
        self.assertEqual(found, {"contained", "needed", "needless", "open"})


class Idle(unittest.TestCase):
    def some_plans(self):
        works = Works.read(
            "machine mixer 100 300\nmachine oven 50 400\ncleaning rinse 0 300\ncleaning scrub 0 50\nstuff nuts 30\n"
            "stuff milk 8\nproduct bar 1000-1000 0-0\nproduct cake 0-0 0-0\nproduct roll 0-0 100-200")
        dice = random.Random(1)
        for _ in range(60):
            deeds = [("run", dice.choice(("bar", "cake", "roll")), dice.choice((("mixer",), ("mixer", "oven"))))
                     for _ in range(4)]
            for _ in range(4):
                deed = ("clean", dice.choice(("mixer", "oven")), dice.choice(("rinse", "scrub")))
                deeds.insert(dice.randrange(len(deeds) + 1), deed)
            yield Plan(works, tuple(deeds))

    def test_without_each_one_alone(self):
        many = {True: 0, False: 0}
        for plan in list(PLANS) + list(self.some_plans()):
            lots = [(lot, stuff) for lot in range(len(plan)) for stuff in ("nuts", "milk")]
            told = []
            for at, deed in enumerate(plan.deeds):
                if deed[0] == "clean":
                    other = Plan(plan.works, plan.deeds[:at] + plan.deeds[at + 1:])
                    same = all(verdict(plan, *asked) == verdict(other, *asked) for asked in lots)
                    told += [at] if same else []
                    many[same] += 1
            self.assertEqual(idle(plan), tuple(told))
        self.assertGreater(min(many.values()), 10)

    def test_no_cleanings_or_no_lots(self):
        self.assertEqual(idle(DIRTY), ())
        self.assertEqual(idle(Plan(SMALL, ())), ())
        self.assertEqual(idle(Plan.read(SMALL, "clean mixer rinse\nclean mixer rinse")), (0, 1))

    def test_one_of_two_is_enough(self):
        two = "run bar mixer\nclean mixer rinse\nclean mixer rinse\nrun cake mixer"
        self.assertEqual(idle(Plan.read(SMALL, two)), (1, 2))
        self.assertEqual(idle(CLEAN), ())
        self.assertEqual(idle(Plan.read(SMALL, "clean mixer rinse\n" + str(CLEAN) + "\nclean mixer rinse")), (0, 4))

    def test_each_stuff_and_each_lot_counts(self):
        works = ("machine mixer 100 200\ncleaning rinse 0 100\nstuff salt 999\nstuff nuts 30\n"
                 "product bar {}\nproduct cake 0-0 0-0")
        text = "run bar mixer\nclean mixer rinse\nrun cake mixer\nrun cake mixer"
        for contents, told in (("0-0 1000-1000", ()), ("1000-1000 0-0", (1,)), ("9999-9999 0-0", ())):
            self.assertEqual(idle(Plan.read(Works.read(works.format(contents)), text)), told)
        # The second lot is open in any way, the third one only without the cleaning.
        plan = Plan.read(one_machine((100, 200), (0, 500), (1000, 1000), (0, 0)), text)
        self.assertEqual([verdict(plan, lot, "nuts") for lot in (1, 2)], ["open", "needless"])
        self.assertEqual([verdict(plan.without(1), lot, "nuts") for lot in (1, 2)], ["needed", "open"])
        self.assertEqual(idle(plan), ())

    def test_the_greatest_plans(self):
        for seed in range(2):
            plan = greatest_plan(seed)
            cleanings = [at for at, deed in enumerate(plan.deeds) if deed[0] == "clean"]
            # All products of this plan declare the stuff.
            self.assertEqual(idle(plan), tuple(cleanings))


class Names(unittest.TestCase):
    """What is told of a stuff does not depend on the others, nor on names, nor on their order."""

    def told(self, plan, stuff):
        return [(greatest(plan, lot, stuff), least(plan, lot, stuff), verdict(plan, lot, stuff), weights(plan, lot, 1),
                 weights(plan, lot, 0)) for lot in range(len(plan))]

    def test_the_other_stuffs(self):
        for plan in PLANS[:30]:
            for stuff in ("nuts", "milk"):
                self.assertEqual(self.told(alone(plan, stuff), stuff), self.told(plan, stuff))

    def test_names_and_their_order(self):
        for plan in PLANS[:30]:
            for stuff, other in (("nuts", "nuts"), ("milk", "oats")):
                self.assertEqual(self.told(turned(plan), stuff), self.told(plan, stuff))
                self.assertEqual(self.told(renamed(plan), other), self.told(plan, stuff))
            self.assertEqual(idle(turned(plan)), idle(plan))
            self.assertEqual(idle(renamed(plan)), idle(plan))


class Errors(unittest.TestCase):
    def test_not_a_plan(self):
        for plan in OTHERS + (0, SMALL, RULE, str(CLEAN), CLEAN.deeds, [CLEAN], (CLEAN,)):
            for call in CALLS + (weights,):
                for lot, stuff in ((0, "nuts"), (None, None), (99, "x")):
                    check(self, NotAPlan, "given", plan, call, plan, lot, stuff)
            check(self, NotAPlan, "given", plan, idle, plan)
            check(self, NotAPlan, "given", plan, idle, plan=plan)
            check(self, NotAPlan, "given", plan, greatest, stuff="x", lot=None, plan=plan)

    def test_invalid_lot(self):
        for lot in OTHERS + (2, 3, -2, "nuts", (1,), [1], SMALL, CLEAN, CLEAN.lots):
            for call in CALLS + (weights,):
                for stuff in ("nuts", None, "x"):
                    check(self, InvalidLot, "given", lot, call, CLEAN, lot, stuff)
                    check(self, InvalidLot, "given", lot, call, Plan(SMALL, ()), lot, stuff)
            check(self, InvalidLot, "given", lot, least, stuff="x", lot=lot, plan=CLEAN)
        check(self, InvalidLot, "given", 0, weights, Plan(SMALL, ()), 0, True)
        check(self, InvalidLot, "given", 0, verdict, Plan.read(SMALL, "clean mixer rinse"), 0, "nuts")

    def test_all_lots_are_valid(self):
        plan = Plan.read(SMALL, "\n".join(["run bar mixer"] * 8))
        for lot in range(8):
            for call in CALLS:
                call(plan, lot, "nuts")
        check(self, InvalidLot, "given", 8, greatest, plan, 8, "nuts")

    def test_unknown_stuff(self):
        for stuff in OTHERS + (0, 1, "mixer", "rinse", "bar", "cake", "milk", "nut", "nutss", "Nuts", ("nuts",),
                               ["nuts"], SMALL):
            for call in CALLS:
                check(self, UnknownName, "given", stuff, call, CLEAN, 1, stuff)
                check(self, UnknownName, "given", stuff, call, stuff=stuff, plan=CLEAN, lot=0)
        for stuff in ("nuts", "milk"):
            greatest(Plan.read(BIG, "run bar mixer"), 0, stuff)


if __name__ == "__main__":
    unittest.main()
