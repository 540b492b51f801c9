"""Rules gone through step by step and on all ways: what the answers about rules are compared with."""

import random
from fractions import Fraction
from itertools import product as all_of

from forward import pair_of

from tracebounds.plans import Plan
from tracebounds.rules import Rule
from tracebounds.works import Works


def names_of(rule):
    return [row[0] for row in rule.works.products]


def stuffs_of(rule):
    return [row[0] for row in rule.works.stuffs]


def share(rule, first, second, end=1):
    """What is left between these lots, at one end of the bounds: hold times keep."""
    cleaning = rule.cleaning(first, second)
    keep = 1000 if cleaning == "-" else rule.works.keep(cleaning)[end]
    return Fraction(rule.works.hold(rule.machine)[end], 1000) * Fraction(keep, 1000)


def led(rule, row, product, stuff, end=1, ahead=0):
    """The residue ahead of this product behind this row, at one end of all bounds."""
    for first, second in zip(row, row[1:] + (product,)):
        ahead = share(rule, first, second, end) * (ahead + rule.works.content(first, stuff)[end])
    return ahead


def limit(rule, ring, tail, product, stuff):
    """What the residue comes nearer to if the ring is gone through for ever, and then the tail; None without end."""
    if not ring:
        return led(rule, tail, product, stuff)
    # Once through the ring: from x to slope * x + rise.
    slope, rise = Fraction(1), Fraction(0)
    for first, second in zip(ring, ring[1:] + ring[:1]):
        factor = share(rule, first, second)
        slope, rise = factor * slope, factor * (rise + rule.works.content(first, stuff)[1])
    if slope >= 1 and rise > 0:
        row = ring + tail
        return None if all(share(rule, *pair) for pair in zip(row, row[1:] + (product,))) else \
            led(rule, row, product, stuff)
    return led(rule, ring + tail, product, stuff, ahead=rise / (1 - slope) if rise else Fraction(0))


def ways_back(rule, product):
    """All pairs (ring, tail): back from the product over unlike products, to nothing or to a ring."""
    before = {name: [other for other in names_of(rule) if rule.cleaning(other, name) is not None]
              for name in names_of(rule)}
    paths = [(product,)]
    while paths:
        path = paths.pop()
        yield (), path[:-1]
        for other in before[path[0]]:
            if other not in path:
                paths.append((other,) + path)
            else:
                ring = path[:path.index(other) + 1]
                yield ring, (path[:-1] if other == product else path[len(ring):-1]) or ring


def all_ever(rule, product, stuff):
    """The greatest residue ever over all ways back, or None without end."""
    found = [limit(rule, ring, tail, product, stuff) for ring, tail in ways_back(rule, product)]
    return None if None in found else max(found)


def all_rows(rule, most):
    """All rows of up to so many lots."""
    found = [()]
    for row in found:
        if len(row) < most:
            found += [row + (name,) for name in names_of(rule) if not row or rule.cleaning(row[-1], name) is not None]
    return found


def follows(rule, row, product):
    return not row or rule.cleaning(row[-1], product) is not None


def let_go(rule, product, stuff, amount):
    """The greatest amount ever, the greatest residue ever being this."""
    rest = 1 - Fraction(rule.works.hold(rule.machine)[0], 1000)
    if rest == 0:
        return 0
    return None if amount is None else rest * (amount + rule.works.content(product, stuff)[1])


def keeps(rule):
    """Whether the rule keeps the limits, over all ways back."""
    for name in names_of(rule):
        for stuff, most in rule.works.stuffs:
            if not rule.works.content(name, stuff)[1]:
                amount = let_go(rule, name, stuff, all_ever(rule, name, stuff))
                if amount is None or amount > most:
                    return False
    return True


def plan_of(rule, row):
    """The plan of these lots, and of the cleanings between them, on the machine of the rule."""
    deeds = []
    for at, name in enumerate(row):
        if at and rule.cleaning(row[at - 1], name) != "-":
            deeds.append(("clean", rule.machine, rule.cleaning(row[at - 1], name)))
        deeds.append(("run", name, (rule.machine,)))
    return Plan(rule.works, tuple(deeds))


def some_rule(dice, products, stuffs=2, loose=False):
    """A rule of so many products, with shares at the ends of their bounds often, of all of them if it is loose."""
    def bounds():
        if loose:
            return (dice.choice((0, 500, 1000)), 1000)
        return pair_of(dice, dice.choice((10, 500, 1000)))

    def content():
        return dice.choice(((0, 0), (0, 0), pair_of(dice, 1000)))

    works = Works(
        (("mixer", *bounds()), ("oven", 0, 1)),
        tuple((f"c{letter}", *bounds()) for letter in "ab") + (("cz", 0, dice.choice((0, 3))),),
        (("nuts", dice.randrange(300)), ("milk", dice.randrange(20)), ("eggs", 0))[:stuffs],
        tuple((f"p{letter}", tuple(content() for _ in range(stuffs))) for letter in "abcdefgh"[:products]),
    )
    names = [row[0] for row in works.products]
    pairs = [pair for pair in all_of(names, names) if dice.random() < 0.6]
    dice.shuffle(pairs)
    return Rule(works, "mixer", tuple(pair + (dice.choice(("-", "ca", "cb", "cz")),) for pair in pairs))


def some_rules(many, most=4, seed=0):
    """Rules of up to so many products; a third of them with factors of 1."""
    dice = random.Random(seed)
    return [some_rule(dice, dice.randrange(1, most + 1), loose=at % 3 == 0) for at in range(many)]


def greatest_rule(seed, hold=(900, 999), limits=10 ** 12):
    """A rule of eight products, all 64 pairs, six cleanings and three stuffs, with contents up to 10 ** 12."""
    dice = random.Random(seed)
    works = Works(
        (("mixer", *hold),) + tuple((f"m{letter}", 0, 1) for letter in "abcde"),
        tuple((f"c{letter}", 1, 900 + 16 * at + dice.choice((1, 3, 7))) for at, letter in enumerate("abcdef")),
        tuple((f"s{letter}", limits) for letter in "abc"),
        tuple((f"p{letter}", tuple(dice.choice(((0, 0), (1, 10 ** 12), (5, 10 ** 11 + dice.randrange(10 ** 11))))
                                   for _ in "abc")) for letter in "abcdefgh"),
    )
    names = [row[0] for row in works.products]
    table = [pair + (dice.choice(works.cleanings)[0],) for pair in all_of(names, names)]
    dice.shuffle(table)
    return Rule(works, "mixer", tuple(table))


def with_works(rule, machines=None, cleanings=None, stuffs=None, products=None):
    """The same rule of other works."""
    works = rule.works
    works = Works(machines or works.machines, works.cleanings if cleanings is None else cleanings,
                  stuffs or works.stuffs, products or works.products)
    return Rule(works, rule.machine, rule.table)


def mixed(rule, dice):
    """The same rule with its products and its table in another order."""
    products, table = list(rule.works.products), list(rule.table)
    dice.shuffle(products)
    dice.shuffle(table)
    return Rule(with_works(rule, products=tuple(products)).works, rule.machine, tuple(table))


def is_way(rule, way, product):
    """Whether this is a pair (ring, tail) as the claim "above" asks for one."""
    if not isinstance(way, tuple) or len(way) != 2 or not all(isinstance(row, tuple) for row in way):
        return False
    ring, tail = way
    row = ring + ring + tail + (product,)
    return (all(name in names_of(rule) for name in row) and len(ring + tail) <= 24 and (len(tail) > 0 or not ring)
            and all(rule.cleaning(*pair) is not None for pair in zip(row, row[1:]))
            and all(rule.cleaning(*pair) is not None for pair in zip(ring, ring[1:] + ring[:1])))
