"""How much more one rule can leave than another one that lets the same pairs."""

from tracebounds.errors import InvalidOther
from tracebounds.ratios import is_less, ratio
from tracebounds.rules import check_rule


def quotient(rule, other):
    """Return the greatest factor by which the first rule leaves more than the other one, or None without end."""
    _check(rule, other)
    best = _best(rule, other)
    return None if best is None else best[0]


def farthest(rule, other):
    """Return a tuple of products for which the quotient is the greatest, or None if there is none, or none above 0."""
    _check(rule, other)
    best = _best(rule, other)
    return None if best is None or best[0] == (0, 1) else best[1]


def _check(rule, other):
    """Raise the error of the first of these that is not valid, if there is one."""
    check_rule(rule)
    check_rule(other)
    if _names(rule) != _names(other) or _pairs(rule) != _pairs(other):
        raise InvalidOther(other)


def _names(rule):
    """Return the names of the products."""
    return [row[0] for row in rule.works.products]


def _pairs(rule):
    """Return the sorted list of the pairs that are let."""
    return sorted([row[:2] for row in rule.table])


def _best(rule, other):
    """Return the greatest quotient, and products that lead to it; None if there is no greatest one.

    What is left of several lots is more by a factor between those for each of the lots alone. So only rows count with
    something in their first lot alone, and the factor is the product of those of their pairs.
    """
    grown = _growths(rule, other)
    if grown is None:
        return None
    best = {name: ((1, 1), (name,)) for name in _names(rule)}
    # Without a ring above 1 the best rows have no product twice, so one round more changes nothing.
    for _ in _names(rule):
        before = best
        best = _longer(before, grown)
    if best != before:
        return None
    last = [_along(best[first], grown[(first, second)], second) for first, second in grown]
    return _greatest([((0, 1), ())] + last)


def _growths(rule, other):
    """Return by which factor the first rule leaves more, for the pairs where it leaves something: a dict.

    None if the other rule leaves nothing there.
    """
    grown = {}
    for first, second in _pairs(rule):
        top, bottom = rule.factor(first, second)
        other_top, other_bottom = other.factor(first, second)
        if top > 0:
            if other_top == 0:
                return None
            grown[(first, second)] = ratio(top * other_bottom, bottom * other_top)
    return grown


def _along(way, growth, product):
    """Return the way, a pair of a quotient and of products, with one more product."""
    (top, bottom), products = way
    return (ratio(top * growth[0], bottom * growth[1]), products + (product,))


def _longer(best, grown):
    """Return for each product the best one of its way and of the ways to other products with this one behind them."""
    found = {name: best[name] for name in best}
    for first, second in grown:
        found[second] = _greatest([found[second], _along(best[first], grown[(first, second)], second)])
    return found


def _greatest(ways):
    """Return the first one of the ways that have the greatest quotient."""
    most = ways[0]
    for way in ways:
        if is_less(most[0], way[0]):
            most = way
    return most
