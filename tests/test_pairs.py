import functools
import random
import unittest
from fractions import Fraction

from forward import all_ends, alone, farthest, greatest_plan, inside, led, renamed, small_plans, some_plan, turned
from samples import BIG, CLEAN, DIRTY, OTHERS, RULE, SMALL, check, worth

from tracebounds.amounts import greatest, least
from tracebounds.errors import InvalidBound, InvalidLot, NotAPlan, UnknownName
from tracebounds.pairs import best_test, corners, measured
from tracebounds.plans import Plan
from tracebounds.works import Works

PLANS = [plan for plan in small_plans(90) if len(plan) > 1]
MOST = 10 ** 13


def numbers(case, told):
    """The corners that are told, as pairs of numbers."""
    case.assertIs(type(told), tuple)
    for corner in told:
        case.assertIs(type(corner), tuple)
        case.assertEqual(len(corner), 2)
    return [(worth(case, x), worth(case, y)) for x, y in told]


def turn(one, two, three):
    return (two[0] - one[0]) * (three[1] - one[1]) - (two[1] - one[1]) * (three[0] - one[0])


def wrapped(points):
    """The corners of these points: from each one to the next one such that nothing is to the right."""
    first = min(points)
    found = [first]
    while True:
        here = found[-1]
        onward = None
        for point in points:
            if point == here:
                continue
            side = turn(here, onward, point) if onward else -1
            if side < 0 or (side == 0 and distance(here, point) > distance(here, onward)):
                onward = point
        if onward is None or onward == first:
            return found
        found.append(onward)


def distance(one, other):
    return abs(one[0] - other[0]) + abs(one[1] - other[1])


def cut(polygon, low, high):
    """The least and the greatest first number in this polygon where the second one is within these bounds."""
    found = []
    for (x, y), (to_x, to_y) in zip(polygon, polygon[1:] + polygon[:1]):
        # The part of the side from one share of the way to another one.
        begin, end = Fraction(0), Fraction(1)
        if y == to_y:
            if y < low or (high is not None and y > high):
                continue
        else:
            ways = [(low - y) / (to_y - y)] + ([] if high is None else [(high - y) / (to_y - y)])
            if y < to_y:
                begin, end = max(begin, ways[0]), min([end] + ways[1:])
            else:
                begin, end = max([begin] + ways[1:]), min(end, ways[0])
        if begin <= end:
            found += [x + (to_x - x) * begin, x + (to_x - x) * end]
    return (min(found), max(found)) if found else None


@functools.lru_cache(None)
def ends_of(at, stuff):
    return all_ends(PLANS[at], stuff)


def polygon_of(plan, lot, other, stuff):
    at = [one is plan for one in PLANS].index(True)
    return wrapped({(amounts[lot], amounts[other]) for amounts in ends_of(at, stuff)})


def all_pairs(plan):
    return [(lot, other) for lot in range(len(plan)) for other in range(len(plan)) if lot != other]


class Examples(unittest.TestCase):
    def test_corners(self):
        self.assertEqual(corners(DIRTY, 0, 1, "nuts"),
                         (((800, 1), (160, 1)), ((900, 1), (80, 1)), ((900, 1), (90, 1)), ((800, 1), (180, 1))))

    def test_the_others(self):
        self.assertEqual(
            [measured(DIRTY, 1, 0, "nuts", 850, None), measured(DIRTY, 1, 0, "nuts", 900, 1000),
             measured(DIRTY, 0, 1, "nuts", 0, 79), best_test(DIRTY, 1, "nuts"), corners(CLEAN, 1, 0, "nuts")[0]],
            [((80, 1), (135, 1)), ((80, 1), (90, 1)), None, (0, (20, 1)), ((0, 1), (800, 1))])

    def test_by_name(self):
        self.assertEqual(corners(stuff="nuts", other=1, lot=0, plan=DIRTY), corners(DIRTY, 0, 1, "nuts"))
        self.assertEqual(measured(high=None, low=850, stuff="nuts", other=0, lot=1, plan=DIRTY), ((80, 1), (135, 1)))
        self.assertEqual(best_test(stuff="nuts", lot=1, plan=DIRTY), (0, (20, 1)))


class Corners(unittest.TestCase):
    def test_against_all_ends(self):
        sizes = set()
        for plan in PLANS:
            for stuff in ("nuts", "milk"):
                for lot, other in all_pairs(plan):
                    told = numbers(self, corners(plan, lot, other, stuff))
                    expected = polygon_of(plan, lot, other, stuff)
                    self.assertEqual(told, expected, (str(plan.works), str(plan), lot, other, stuff))
                    sizes.add(len(told))
        self.assertLessEqual({1, 2, 3, 4, 5, 6}, sizes)

    def test_they_turn_left_from_the_least_one_on(self):
        for plan in PLANS:
            for lot, other in all_pairs(plan):
                told = numbers(self, corners(plan, lot, other, "nuts"))
                self.assertEqual(told[0], min(told))
                self.assertEqual(len(set(told)), len(told))
                if len(told) > 2:
                    for at in range(len(told)):
                        self.assertGreater(turn(told[at - 2], told[at - 1], told[at]), 0)

    def test_a_point(self):
        works = Works.read("machine mixer 250 250\nstuff nuts 30\nproduct bar 8-8\nproduct cake 0-0")
        self.assertEqual(corners(Plan.read(works, "run cake mixer\nrun cake mixer"), 0, 1, "nuts"), (((0, 1), (0, 1)),))
        self.assertEqual(corners(Plan.read(works, "run bar mixer\nrun cake mixer"), 0, 1, "nuts"), (((6, 1), (3, 2)),))
        self.assertEqual(corners(Plan.read(works, "run bar mixer\nrun cake mixer"), 1, 0, "nuts"), (((3, 2), (6, 1)),))

    def test_a_side(self):
        works = Works.read(
            "machine mixer 250 250\nstuff nuts 30\nproduct bar 8-80\nproduct cake 0-0\nproduct roll 0-4")
        plan = Plan.read(works, "run bar mixer\nrun cake mixer")
        self.assertEqual(corners(plan, 0, 1, "nuts"), (((6, 1), (3, 2)), ((60, 1), (15, 1))))
        self.assertEqual(corners(plan, 1, 0, "nuts"), (((3, 2), (6, 1)), ((15, 1), (60, 1))))
        # Straight up, and straight to the right.
        plan = Plan.read(works, "run cake mixer\nrun roll mixer")
        self.assertEqual(corners(plan, 0, 1, "nuts"), (((0, 1), (0, 1)), ((0, 1), (3, 1))))
        self.assertEqual(corners(plan, 1, 0, "nuts"), (((0, 1), (0, 1)), ((3, 1), (0, 1))))

    def test_a_side_that_falls(self):
        """What the first lot leaves is in the second one."""
        works = Works.read("machine mixer 0 1000\nmachine tub 0 0\nstuff nuts 30\nproduct bar 10-10\nproduct cake 0-0")
        plan = Plan.read(works, "run bar mixer\nrun cake mixer")
        self.assertEqual(corners(plan, 0, 1, "nuts"), (((0, 1), (0, 1)), ((10, 1), (0, 1)), ((0, 1), (10, 1))))
        works = Works.read(
            "machine mixer 0 500\ncleaning rinse 0 1000\nstuff nuts 30\nproduct bar 10-10\nproduct cake 0-0")
        plan = Plan.read(works, "run bar mixer\nclean mixer rinse\nrun cake mixer")
        self.assertEqual(corners(plan, 0, 1, "nuts"), (((5, 1), (0, 1)), ((10, 1), (0, 1)), ((5, 1), (5, 1))))

    def test_lots_on_other_machines(self):
        works = Works.read(
            "machine mixer 100 200\nmachine oven 0 500\nstuff nuts 30\nproduct bar 10-10\nproduct cake 0-8")
        plan = Plan.read(works, "run bar mixer\nrun cake oven")
        self.assertEqual(corners(plan, 0, 1, "nuts"),
                         (((8, 1), (0, 1)), ((9, 1), (0, 1)), ((9, 1), (8, 1)), ((8, 1), (8, 1))))

    def test_the_lots_exchanged(self):
        for plan in PLANS:
            for lot, other in all_pairs(plan):
                told = numbers(self, corners(plan, lot, other, "nuts"))
                turned = numbers(self, corners(plan, other, lot, "nuts"))
                self.assertEqual(turned, wrapped([(y, x) for x, y in told]))

    def test_the_ends_are_the_amounts(self):
        for plan in PLANS:
            for lot, other in all_pairs(plan):
                told = numbers(self, corners(plan, lot, other, "milk"))
                for at, number in ((0, lot), (1, other)):
                    self.assertEqual(min(corner[at] for corner in told), worth(self, least(plan, number, "milk")))
                    self.assertEqual(max(corner[at] for corner in told), worth(self, greatest(plan, number, "milk")))

    def test_what_stands_behind_both_lots_plays_no_part(self):
        for plan in PLANS:
            runs = [at for at, deed in enumerate(plan.deeds) if deed[0] == "run"]
            for lot, other in all_pairs(plan):
                end = runs[max(lot, other)] + 1
                begin = Plan(plan.works, plan.deeds[:end])
                self.assertEqual(corners(begin, lot, other, "nuts"), corners(plan, lot, other, "nuts"))
                for more in (("clean", "ma", "ca"), ("run", "pa", ("ma",))):
                    longer = Plan(plan.works, plan.deeds[:end] + (more,) + plan.deeds[end:])
                    self.assertEqual(corners(longer, lot, other, "nuts"), corners(plan, lot, other, "nuts"))

    def supported(self, plan, lot, other):
        """All sides are as far out as they can be, all corners are reached, and what is inside is told to be so."""
        told = numbers(self, corners(plan, lot, other, "nuts"))
        goals = {lot: (1, 0), other: (0, 1)}
        outward = []
        for (x, y), (to_x, to_y) in zip(told, told[1:] + told[:1]):
            direction = (to_y - y, x - to_x)
            contents, shares, _ = farthest(plan, "nuts", goals, direction)
            amounts = led(plan, contents, shares)
            reach = amounts[lot] * direction[0] + amounts[other] * direction[1]
            self.assertEqual(reach, x * direction[0] + y * direction[1])
            # Directions to be added to each other: of about the same length.
            length = abs(direction[0]) + abs(direction[1])
            outward.append((direction[0] / length, direction[1] / length))
        for at, corner in enumerate(told):
            direction = tuple(one + other for one, other in zip(outward[at - 1], outward[at]))
            amounts = led(plan, *farthest(plan, "nuts", goals, direction)[:2])
            self.assertEqual((amounts[lot], amounts[other]), corner)
        dice = random.Random(len(told))
        for _ in range(5):
            amounts = inside(plan, "nuts", dice)
            for one, two in zip(told, told[1:] + told[:1]):
                self.assertGreaterEqual(turn(one, two, (amounts[lot], amounts[other])), 0)
        return len(told)

    def test_plans_as_great_as_can_be(self):
        sizes = [self.supported(greatest_plan(seed), lot, other)
                 for seed, lot, other in ((0, 6, 7), (1, 7, 3), (2, 0, 7), (3, 4, 1))]
        self.assertGreater(max(sizes), 20)

    def test_plans_of_some_more_lots(self):
        dice = random.Random(3)
        for _ in range(12):
            plan = some_plan(dice, 4, 6, 6, 3)
            for lot, other in ((5, 4), (1, 5), (2, 3)):
                if len(corners(plan, lot, other, "nuts")) > 2:
                    self.supported(plan, lot, other)

    def test_no_call_changes_the_plan(self):
        before = (str(DIRTY), str(SMALL))
        for call in (lambda: corners(DIRTY, 0, 1, "nuts"), lambda: measured(DIRTY, 0, 1, "nuts", 0, None),
                     lambda: best_test(DIRTY, 0, "nuts")):
            self.assertEqual(call(), call())
        self.assertEqual((str(DIRTY), str(SMALL)), before)


class Measured(unittest.TestCase):
    def asked(self, plan, lot, other, stuff, polygon, low, high):
        told = measured(plan, lot, other, stuff, low, high)
        if told is not None:
            self.assertIs(type(told), tuple)
            told = tuple(worth(self, number) for number in told)
        self.assertEqual(told, cut(polygon, low, high), (str(plan.works), str(plan), lot, other, stuff, low, high))
        return told

    def test_against_all_ends(self):
        found = {True: 0, False: 0}
        for plan in PLANS:
            for lot, other in all_pairs(plan):
                polygon = polygon_of(plan, lot, other, "nuts")
                levels = sorted({number for _, y in polygon for number in (int(y), int(y) + 1)} | {0, 10 ** 6})
                for low in levels:
                    for high in [low, low + 1, None, levels[-1]] + [high for high in levels if high > low]:
                        told = self.asked(plan, lot, other, "nuts", polygon, low, high)
                        found[told is None] += 1
        self.assertGreater(min(found.values()), 100)

    def test_at_the_corners(self):
        # The amount of the first lot is from 800 to 900, that of the second one from 80 to 180.
        for low, high, told in (
            (0, 0, None), (0, 79, None), (181, 181, None), (181, None, None), (MOST, MOST, None), (MOST, None, None),
            (0, 80, ((900, 1), (900, 1))), (80, 80, ((900, 1), (900, 1))), (180, 180, ((800, 1), (800, 1))),
            (180, None, ((800, 1), (800, 1))), (0, None, ((800, 1), (900, 1))), (0, MOST, ((800, 1), (900, 1))),
            (80, 180, ((800, 1), (900, 1))), (0, 90, ((1775, 2), (900, 1))), (90, 90, ((1775, 2), (900, 1))),
            (160, 160, ((800, 1), (7400, 9))), (170, 1000, ((800, 1), (7300, 9))), (81, 81, ((3595, 4), (900, 1))),
        ):
            self.assertEqual(measured(DIRTY, 0, 1, "nuts", low, high), told, (low, high))

    def test_a_point_and_a_side(self):
        works = Works.read("machine mixer 250 250\nstuff nuts 30\nproduct bar 8-80\nproduct cake 0-0\nproduct roll 8-8")
        side = Plan.read(works, "run bar mixer\nrun cake mixer")
        point = Plan.read(works, "run roll mixer\nrun cake mixer")
        for low, high, told in (
            (0, 5, None), (0, 6, ((3, 2), (3, 2))), (0, 40, ((3, 2), (10, 1))), (40, 40, ((10, 1), (10, 1))),
            (40, None, ((10, 1), (15, 1))), (60, 60, ((15, 1), (15, 1))), (61, None, None),
        ):
            self.assertEqual(measured(side, 1, 0, "nuts", low, high), told)
        for low, high, told in (
            (0, 5, None), (0, 6, ((3, 2), (3, 2))), (6, 6, ((3, 2), (3, 2))), (6, None, ((3, 2), (3, 2))),
            (7, None, None),
        ):
            self.assertEqual(measured(point, 1, 0, "nuts", low, high), told)
        flat = Plan.read(works, "run cake mixer\nrun bar mixer")
        self.assertEqual(measured(flat, 1, 0, "nuts", 0, 0), ((6, 1), (60, 1)))
        self.assertEqual(measured(flat, 1, 0, "nuts", 0, None), ((6, 1), (60, 1)))
        self.assertIsNone(measured(flat, 1, 0, "nuts", 1, None))

    def test_the_greatest_contents(self):
        plan = greatest_plan(1)
        polygon = numbers(self, corners(plan, 7, 6, "nuts"))
        low, high = int(min(polygon[0][1], polygon[1][1])), int(max(y for _, y in polygon))
        for bounds in ((low, high), (low + 1, None), ((low + high) // 2, (low + high) // 2 + 1), (0, (low + high) // 2),
                       (0, 0), (MOST, MOST)):
            self.asked(plan, 7, 6, "nuts", polygon, *bounds)

    def test_all_that_can_be(self):
        for plan in PLANS:
            for lot, other in all_pairs(plan):
                self.assertEqual(measured(plan, lot, other, "nuts", 0, None),
                                 (least(plan, lot, "nuts"), greatest(plan, lot, "nuts")))


class BestTest(unittest.TestCase):
    def test_against_all_ends(self):
        for plan in PLANS:
            for lot in range(len(plan)):
                best = None
                for other in range(len(plan)):
                    if other != lot:
                        polygon = polygon_of(plan, lot, other, "nuts")
                        spans = [cut(polygon, y, y) for _, y in polygon]
                        width = max(high - low for low, high in spans)
                        if best is None or width < best[1]:
                            best = (other, width)
                told = best_test(plan, lot, "nuts")
                self.assertIs(type(told), tuple)
                self.assertEqual((told[0], worth(self, told[1])), best)

    def test_no_amount_between_corners_leaves_more(self):
        for plan in PLANS[:20]:
            for lot in range(len(plan)):
                other, width = best_test(plan, lot, "nuts")
                polygon = polygon_of(plan, lot, other, "nuts")
                low, high = min(y for _, y in polygon), max(y for _, y in polygon)
                for part in range(21):
                    level = low + (high - low) * part / 20
                    span = cut(polygon, level, level)
                    self.assertLessEqual(span[1] - span[0], worth(self, width))

    def test_one_lot_alone(self):
        for text in ("run bar mixer", "clean mixer rinse\nrun cake mixer\nclean mixer rinse"):
            self.assertIsNone(best_test(Plan.read(SMALL, text), 0, "nuts"))

    def test_the_first_one_of_several(self):
        works = Works.read(
            "machine mixer 100 200\nmachine oven 100 200\nstuff nuts 30\nproduct bar 1000-1000\nproduct cake 0-0")
        # The first two tell nothing of the last one, and the last one nothing of them.
        plan = Plan.read(works, "run bar mixer\nrun bar mixer\nrun bar oven")
        self.assertEqual(best_test(plan, 2, "nuts"), (0, (100, 1)))
        plan = Plan.read(works, "run bar oven\nrun bar mixer\nrun bar mixer")
        self.assertEqual(best_test(plan, 0, "nuts"), (1, (100, 1)))
        # A lot that tells something, behind one that tells nothing.
        plan = Plan.read(works, "run bar oven\nrun bar mixer\nrun cake mixer")
        self.assertEqual(best_test(plan, 2, "nuts"), (1, (20, 1)))
        plan = Plan.read(works, "run bar mixer\nrun bar oven\nrun cake mixer")
        self.assertEqual(best_test(plan, 2, "nuts"), (0, (20, 1)))

    def test_lots_behind_tell_something_as_well(self):
        plan = Plan.read(SMALL, "run bar mixer\nrun cake mixer\nrun cake mixer")
        self.assertEqual(best_test(plan, 0, "nuts")[0], 1)

    def test_nothing_is_left(self):
        works = Works.read("machine mixer 250 250\nstuff nuts 30\nproduct bar 8-80\nproduct cake 0-0")
        plan = Plan.read(works, "run bar mixer\nrun cake mixer\nrun bar mixer")
        self.assertEqual(best_test(plan, 0, "nuts"), (1, (0, 1)))
        self.assertEqual(best_test(plan, 1, "nuts"), (0, (0, 1)))


class Names(unittest.TestCase):
    """What is told of a stuff does not depend on the others, nor on names, nor on their order."""

    def told(self, plan, stuff):
        found = [corners(plan, lot, other, stuff) for lot, other in all_pairs(plan)]
        found += [measured(plan, lot, other, stuff, 5, 50) for lot, other in all_pairs(plan)]
        return found + [best_test(plan, lot, stuff) for lot in range(len(plan))]

    def test_the_other_stuffs(self):
        for plan in PLANS[:20]:
            for stuff in ("nuts", "milk"):
                self.assertEqual(self.told(alone(plan, stuff), stuff), self.told(plan, stuff))

    def test_names_and_their_order(self):
        for plan in PLANS[:20]:
            for stuff, other in (("nuts", "nuts"), ("milk", "oats")):
                self.assertEqual(self.told(turned(plan), stuff), self.told(plan, stuff))
                self.assertEqual(self.told(renamed(plan), other), self.told(plan, stuff))


class Errors(unittest.TestCase):
    def test_not_a_plan(self):
        for plan in OTHERS + (0, SMALL, RULE, str(CLEAN), CLEAN.deeds, [CLEAN], (CLEAN,)):
            for lot, other, stuff in ((0, 1, "nuts"), (None, None, None), (1, 1, "x")):
                check(self, NotAPlan, "given", plan, corners, plan, lot, other, stuff)
                check(self, NotAPlan, "given", plan, measured, plan, lot, other, stuff, 0, None)
                check(self, NotAPlan, "given", plan, measured, plan, lot, other, stuff, -1, "x")
                check(self, NotAPlan, "given", plan, best_test, plan, lot, stuff)
            check(self, NotAPlan, "given", plan, corners, stuff=None, other=None, lot=None, plan=plan)

    def test_invalid_lot(self):
        for lot in OTHERS + (2, 3, -2, "nuts", (1,), [1], SMALL, CLEAN):
            for stuff in ("nuts", "x"):
                for other in (0, lot, "x"):
                    check(self, InvalidLot, "given", lot, corners, CLEAN, lot, other, stuff)
                    check(self, InvalidLot, "given", lot, measured, CLEAN, lot, other, stuff, -1, -2)
                check(self, InvalidLot, "given", lot, best_test, CLEAN, lot, stuff)
        for plan in (Plan(SMALL, ()), Plan.read(SMALL, "clean mixer rinse")):
            check(self, InvalidLot, "given", 0, best_test, plan, 0, "nuts")
            check(self, InvalidLot, "given", 0, corners, plan, 0, 1, "nuts")

    def test_invalid_other(self):
        for other in OTHERS + (1, 2, 3, -2, "nuts", (0,), [0], SMALL, CLEAN):
            for stuff in ("nuts", "x"):
                check(self, InvalidLot, "given", other, corners, CLEAN, 1, other, stuff)
                check(self, InvalidLot, "given", other, measured, CLEAN, 1, other, stuff, -1, -2)
                check(self, InvalidLot, "given", other, corners, stuff=stuff, other=other, lot=1, plan=CLEAN)
        check(self, InvalidLot, "given", 0, corners, CLEAN, 0, 0, "nuts")
        check(self, InvalidLot, "given", 0, measured, CLEAN, 0, 0, "nuts", 0, None)
        check(self, InvalidLot, "given", 1, corners, Plan.read(SMALL, "run bar mixer"), 0, 1, "nuts")

    def test_unknown_stuff(self):
        for stuff in OTHERS + (0, 1, "mixer", "rinse", "bar", "milk", "Nuts", ("nuts",), ["nuts"], SMALL):
            check(self, UnknownName, "given", stuff, corners, CLEAN, 0, 1, stuff)
            check(self, UnknownName, "given", stuff, measured, CLEAN, 0, 1, stuff, -1, -2)
            check(self, UnknownName, "given", stuff, best_test, CLEAN, 0, stuff)
            check(self, UnknownName, "given", stuff, best_test, Plan.read(SMALL, "run bar mixer"), 0, stuff)
        corners(Plan.read(BIG, "run bar mixer\nrun cake mixer"), 0, 1, "milk")

    def test_low(self):
        for low in OTHERS + (-1, -5, MOST + 1, "0", (0,), [0]):
            for high in (None, 10, MOST, -1, "x"):
                check(self, InvalidBound, "given", low, measured, CLEAN, 0, 1, "nuts", low, high)
            check(self, InvalidBound, "given", low, measured, CLEAN, 0, 1, "nuts", high=low, low=low)
        for low in (0, 1, MOST - 1, MOST):
            measured(CLEAN, 0, 1, "nuts", low, None)

    def test_high(self):
        for high in OTHERS + (-1, 4, MOST + 1, "5", (5,), [5]):
            if high is not None:
                check(self, InvalidBound, "given", high, measured, CLEAN, 0, 1, "nuts", 5, high)
                check(self, InvalidBound, "given", high, measured, CLEAN, 0, 1, "nuts", high=high, low=5)
        for low, high in ((MOST, MOST - 1), (1, 0), (MOST, 0)):
            check(self, InvalidBound, "given", high, measured, CLEAN, 0, 1, "nuts", low, high)
        for low, high in ((0, 0), (5, 5), (5, 6), (0, MOST), (MOST, MOST), (0, None), (MOST, None)):
            measured(CLEAN, 0, 1, "nuts", low, high)


if __name__ == "__main__":
    unittest.main()
