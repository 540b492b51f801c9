"""What the checker must say, told once more from the document alone, with numbers of Python's fractions.

Nothing here is taken from the package but how texts are read.
"""

import math
from fractions import Fraction

from tracebounds.errors import InvalidText
from tracebounds.plans import Plan
from tracebounds.rules import Rule
from tracebounds.works import Works


def is_fraction(value):
    return (type(value) is tuple and len(value) == 2 and all(type(part) is int for part in value)
            and value[0] >= 0 and value[1] > 0 and math.gcd(*value) == 1)


def number(value):
    """What a number of a certificate stands for, or None."""
    if type(value) is int and value >= 0:
        return Fraction(value)
    return Fraction(*value) if is_fraction(value) else None


def numbers(values, many):
    """What so many numbers stand for, or None."""
    if type(values) is not tuple or len(values) != many:
        return None
    found = [number(value) for value in values]
    return None if None in found else found


def read(kind, works_text, text):
    try:
        return kind.read(Works.read(works_text), text)
    except InvalidText:
        return None


def one_of(rows, value):
    return type(value) is str and value in [row[0] for row in rows]


def judged(claim, certificate):
    """Whether the checker accepts these."""
    if type(claim) is not tuple or not claim or type(claim[0]) is not str or claim[0] not in KINDS:
        return False
    length, kind, judge = KINDS[claim[0]]
    if len(claim) != length or not is_fraction(claim[-1]):
        return False
    there = read(kind, claim[1], claim[2])
    if there is None or not one_of(there.works.stuffs, claim[-2]):
        return False
    return judge(there, claim[3:-2], claim[-2], Fraction(*claim[-1]), certificate)


def deeds_to(plan, lot):
    """The deeds up to the run of this lot, or None if there is no such lot."""
    runs = [at for at, deed in enumerate(plan.deeds) if deed[0] == "run"]
    return plan.deeds[:runs[lot] + 1] if type(lot) is int and 0 <= lot < len(runs) else None


def ends(bounds):
    return [Fraction(end, 1000) for end in bounds]


def most(plan, told, stuff, bound, certificate):
    deeds = deeds_to(plan, told[0])
    machines = [row[0] for row in plan.works.machines]
    if deeds is None or type(certificate) is not tuple or len(certificate) != len(deeds):
        return False
    rows = [numbers(row, len(machines)) for row in certificate]
    if None in rows:
        return False
    rows.append([Fraction(0)] * len(machines))
    total = Fraction(0)
    for at, (word, first, second) in enumerate(deeds):
        ahead, behind = dict(zip(machines, rows[at])), dict(zip(machines, rows[at + 1]))
        touched = [first] if word == "clean" else second
        if any(ahead[name] < behind[name] for name in machines if name not in touched):
            return False
        if word == "clean":
            if any(ahead[first] < keep * behind[first] for keep in ends(plan.works.keep(second))):
                return False
            continue
        here = Fraction(at == len(deeds) - 1)
        for name in reversed(second):
            here = max((1 - hold) * here + hold * behind[name] for hold in ends(plan.works.hold(name)))
            if ahead[name] < here:
                return False
        total += here * plan.works.content(first, stuff)[1]
    return bound >= total


def within(value, bounds):
    found = number(value)
    return found if found is not None and bounds[0] <= found <= bounds[1] else None


def reached(plan, told, stuff, bound, certificate):
    deeds = deeds_to(plan, told[0])
    if deeds is None or type(certificate) is not tuple or len(certificate) != len(deeds):
        return False
    on = {row[0]: Fraction(0) for row in plan.works.machines}
    amount = None
    for (word, first, second), said in zip(deeds, certificate):
        if word == "clean":
            keep = within(said, ends(plan.works.keep(second)))
            if keep is None:
                return False
            on[first] *= keep
            continue
        if type(said) is not tuple or len(said) != 2 or type(said[1]) is not tuple or len(said[1]) != len(second):
            return False
        amount = within(said[0], plan.works.content(first, stuff))
        holds = [within(one, ends(plan.works.hold(name))) for one, name in zip(said[1], second)]
        if amount is None or None in holds:
            return False
        for hold, name in zip(holds, second):
            on[name], amount = hold * (on[name] + amount), (1 - hold) * (on[name] + amount)
    return amount >= bound


def factor(rule, first, second):
    cleaning = rule.cleaning(first, second)
    keep = 1000 if cleaning == "-" else rule.works.keep(cleaning)[1]
    return Fraction(keep * rule.works.hold(rule.machine)[1], 10 ** 6)


def never(rule, told, stuff, bound, certificate):
    names = [row[0] for row in rule.works.products]
    found = numbers(certificate, len(names))
    if found is None or max(found) > bound:
        return False
    by_name = dict(zip(names, found))
    return all(by_name[second] >= factor(rule, first, second) * (by_name[first] + rule.works.content(first, stuff)[1])
               for first, second, _ in rule.table)


def above(rule, told, stuff, bound, certificate):
    product = told[0]
    if not one_of(rule.works.products, product):
        return False
    if type(certificate) is not tuple or len(certificate) != 2 or any(type(row) is not tuple for row in certificate):
        return False
    ring, tail = certificate
    if len(ring + tail) > 24 or (ring and not tail):
        return False
    if not all(one_of(rule.works.products, name) for name in ring + tail):
        return False
    let = {row[:2] for row in rule.table}
    for row in (tail + (product,), ring + ring, ring + tail):
        if any(pair not in let for pair in zip(row, row[1:])):
            return False

    def led(residue, row):
        """What comes ahead of the last one of this row; None for what grows without end."""
        for pair in zip(row, row[1:]):
            share = factor(rule, *pair)
            if share == 0:
                residue = Fraction(0)
            elif residue is not None:
                residue = share * (residue + rule.works.content(pair[0], stuff)[1])
        return residue

    begin = Fraction(0)
    if ring:
        # Once through the ring twice: the rise and the slope of what comes back to its beginning.
        round_trip = ring + ring[:1]
        rise, slope = led(Fraction(0), round_trip), led(Fraction(1), round_trip) - led(Fraction(0), round_trip)
        begin = Fraction(0) if rise == 0 else None if slope == 1 else rise / (1 - slope)
    residue = led(begin, ring + tail + (product,))
    return residue is None or residue > bound


KINDS = {"most": (6, Plan, most), "reached": (6, Plan, reached), "never": (5, Rule, never), "above": (6, Rule, above)}
