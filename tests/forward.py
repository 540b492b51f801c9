"""Plans led forward, deed by deed, as the document tells what happens: what the answers are compared with."""

import fractions
import functools
import random

from tracebounds.plans import Plan
from tracebounds.works import Works

IN_LOT = object()


def shares_of(plan):
    """The bounds of each share, in thousandths, in the order in which the shares come."""
    found = []
    for word, first, second in plan.deeds:
        if word == "clean":
            found.append(plan.works.keep(second))
        else:
            found += [plan.works.hold(machine) for machine in second]
    return found


def contents_of(plan, stuff):
    """The bounds of the content of each lot."""
    return [plan.works.content(product, stuff) for product in plan.lots]


def led(plan, contents, shares):
    """The amounts of all lots with these contents and shares."""
    contents, shares = iter(contents), iter(shares)
    on = {row[0]: 0 for row in plan.works.machines}
    amounts = []
    for word, first, second in plan.deeds:
        if word == "clean":
            on[first] *= next(shares)
        else:
            in_lot = next(contents)
            for machine in second:
                both = in_lot + on[machine]
                on[machine] = both * next(shares)
                in_lot = both - on[machine]
            amounts.append(in_lot)
    return tuple(amounts)


def all_ends(plan, stuff):
    """The set of all tuples of amounts that the ends of all shares and contents lead to."""
    names = [row[0] for row in plan.works.machines]
    unit = 1000 ** len(shares_of(plan))
    states = {((0,) * len(names), None, ())}
    for word, first, second in plan.deeds:
        if word == "clean":
            at = names.index(first)
            states = {
                (on[:at] + (on[at] * keep // 1000,) + on[at + 1:], None, done)
                for on, _, done in states for keep in plan.works.keep(second)
            }
            continue
        states = {
            (on, content * unit, done) for on, _, done in states for content in plan.works.content(first, stuff)
        }
        for machine in second:
            at = names.index(machine)
            states = {
                (on[:at] + ((lot + on[at]) * hold // 1000,) + on[at + 1:], (lot + on[at]) * (1000 - hold) // 1000, done)
                for on, lot, done in states for hold in plan.works.hold(machine)
            }
        states = {(on, None, done + (lot,)) for on, lot, done in states}
    return {tuple(fractions.Fraction(amount, unit) for amount in done) for _, _, done in states}


def farthest(plan, stuff, goals, direction):
    """Contents and shares with which the goals (pairs for the ends of lots) come farthest in this direction.

    Also what 1 counts in each lot then. From each step to the next one, unlike the program.
    """
    steps = []
    for word, first, second in plan.deeds:
        if word == "clean":
            steps.append(("clean", first, plan.works.keep(second)))
        else:
            steps += [("begin", None, None)]
            steps += [("pass", machine, plan.works.hold(machine)) for machine in second]
            steps += [("end", len([step for step in steps if step[0] == "end"]), None)]

    def reach(pair):
        return pair[0] * direction[0] + pair[1] * direction[1]

    def mixed(at, share, machine):
        share = fractions.Fraction(share, 1000)
        on = count(at, machine)
        rest = count(at, IN_LOT) if steps[at - 1][0] == "pass" else (0, 0)
        return tuple((1 - share) * one + share * other for one, other in zip(rest, on))

    def end(at):
        """The better end of the share of this step."""
        _, machine, bounds = steps[at]
        return max(bounds, key=lambda share: reach(mixed(at + 1, share, machine)))

    @functools.lru_cache(None)
    def count(at, where):
        """What 1 counts there right before this step."""
        if at == len(steps):
            return (0, 0)
        word, what, _ = steps[at]
        if word == "end" and where is IN_LOT:
            return goals.get(what, (0, 0))
        if where == what or (word == "pass" and where is IN_LOT):
            return mixed(at + 1, end(at), what)
        return count(at + 1, where)

    shares = [fractions.Fraction(end(at), 1000) for at, step in enumerate(steps) if step[2]]
    counts = [count(at, IN_LOT) for at, step in enumerate(steps) if step[0] == "begin"]
    contents = [high if reach(pair) > 0 else low for pair, (low, high) in zip(counts, contents_of(plan, stuff))]
    return contents, shares, counts


def inside(plan, stuff, dice):
    """Amounts with shares and contents somewhere within their bounds."""
    def within(bounds, parts):
        return bounds[0] + (bounds[1] - bounds[0]) * fractions.Fraction(dice.randrange(8), 7) / parts

    return led(plan, [within(pair, 1) for pair in contents_of(plan, stuff)],
               [fractions.Fraction(pair[0], 1000) + within((0, pair[1] - pair[0]), 1000) for pair in shares_of(plan)])


def pair_of(dice, most):
    """Bounds from 0 to this one: often far apart, often the same, at times at an end."""
    ends = [dice.randrange(most + 1), dice.randrange(most + 1), 0, most]
    first, second = dice.choice(ends[:2]), dice.choice(ends)
    return tuple(sorted((first, second)))


def content_of(dice):
    """Bounds of a content: often it is nothing."""
    return dice.choice(((0, 0), pair_of(dice, 1000)))


def some_plan(dice, machines, cleanings, lots, passed):
    """A plan of some works with two stuffs, with so many lots and, at most, so many machines passed by each one."""
    works = Works(
        tuple((f"m{letter}", *pair_of(dice, 1000)) for letter in "abcdef"[:machines]),
        tuple((f"c{letter}", *pair_of(dice, 1000)) for letter in "abcdef"[:max(1, cleanings)]),
        (("nuts", dice.randrange(100)), ("milk", dice.randrange(10))),
        tuple((f"p{letter}", (content_of(dice), content_of(dice))) for letter in "abcdefgh"),
    )
    names = [row[0] for row in works.machines]
    deeds = []
    for _ in range(lots):
        some = dice.sample(names, dice.randrange(1, min(passed, machines) + 1))
        deeds.append(("run", dice.choice(works.products)[0], tuple(some)))
    for _ in range(cleanings):
        deed = ("clean", dice.choice(names), dice.choice(works.cleanings)[0])
        deeds.insert(dice.randrange(len(deeds) + 1), deed)
    return Plan(works, tuple(deeds))


def small_plans(many):
    """Plans of up to eight shares, with up to three lots."""
    dice = random.Random(many)
    plans = []
    while len(plans) < many:
        plan = some_plan(dice, dice.randrange(1, 4), dice.randrange(4), dice.randrange(1, 4), 3)
        if len(shares_of(plan)) <= 8:
            plans.append(plan)
    return plans


def greatest_plan(seed):
    """A plan of eight runs through four machines each, and twelve cleanings, with shares of three figures."""
    dice = random.Random(seed)

    def share():
        # Without a divisor of 1000, so that the bottoms of the answers are great.
        return 10 * dice.randrange(10, 99) + dice.choice((1, 3, 7, 9))

    works = Works(
        tuple((f"m{letter}", *sorted((share(), share()))) for letter in "abcdef"),
        tuple((f"c{letter}", *sorted((share(), share()))) for letter in "abcdef"),
        (("nuts", 10 ** 12),),
        tuple((f"p{letter}", (tuple(sorted((dice.randrange(10 ** 12), dice.randrange(10 ** 11, 10 ** 12)))),))
              for letter in "abcdefgh"),
    )
    names = [row[0] for row in works.machines]
    deeds = [("run", works.products[k][0], tuple(dice.sample(names, 4))) for k in range(8)]
    for k in range(12):
        deed = ("clean", dice.choice(names), works.cleanings[k // 2][0])
        deeds.insert(dice.randrange(1, len(deeds)), deed)
    return Plan(works, tuple(deeds))


def alone(plan, stuff):
    """The same plan of works with this stuff alone."""
    works = plan.works
    at = [row[0] for row in works.stuffs].index(stuff)
    products = tuple((name, (contents[at],)) for name, contents in works.products)
    return Plan(Works(works.machines, works.cleanings, (works.stuffs[at],), products), plan.deeds)


def turned(plan):
    """The same plan of works with all names in the opposite order."""
    works = plan.works
    products = tuple((name, contents[::-1]) for name, contents in works.products[::-1])
    return Plan(Works(works.machines[::-1], works.cleanings[::-1], works.stuffs[::-1], products), plan.deeds)


def renamed(plan):
    """The same plan, made by some_plan, with other names: milk is oats."""
    def other(text):
        return text.replace(" m", " z").replace(" c", " y").replace(" p", " a").replace("zilk", "oats")

    return Plan.read(Works.read(other(str(plan.works))), other(str(plan)))
