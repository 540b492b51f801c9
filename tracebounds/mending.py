"""Which cleanings of a rule can be weaker, which changes mend it, and in which order lots are best made."""

from tracebounds.checks import check_name, is_name_of
from tracebounds.errors import InvalidChanges, InvalidOrdered
from tracebounds.ever import first_above
from tracebounds.limits import MOST_CHANGES, MOST_ORDERED, MOST_SHARE
from tracebounds.ratios import is_less, ratio
from tracebounds.rows import HIGH, left_behind, links_of
from tracebounds.rules import NO_CLEANING, Rule, check_rule, is_cleaning
from tracebounds.works import Works


def easier(rule):
    """Return the weaker cleanings, each for a pair of the table, with which the rule still keeps the limits."""
    check_rule(rule)
    if not _keeps(rule):
        return ()
    keeps = {name: high for name, _, high in rule.works.cleanings}
    keeps[NO_CLEANING] = MOST_SHARE
    weaker = [
        (first, second, other)
        for first, second, cleaning in rule.table for other in keeps if keeps[other] > keeps[cleaning]
    ]
    return tuple([change for change in weaker if _keeps(_changed(rule, [change]))])


def weakest(rule, cleaning):
    """Return the greatest high keep of this cleaning with which the rule keeps the limits, or None."""
    check_rule(rule)
    check_name(rule.works.cleanings, cleaning)
    if not _keeps(_with_keep(rule, cleaning, 0)):
        return None
    # With a greater keep there is never less in any lot.
    keep, above = 0, MOST_SHARE + 1
    while above - keep > 1:
        middle = (keep + above) // 2
        if _keeps(_with_keep(rule, cleaning, middle)):
            keep = middle
        else:
            above = middle
    return keep


def mends(rule, changes):
    """Return the least sets of these changes with which the rule keeps the limits, as tuples of their indexes."""
    check_rule(rule)
    _check_changes(rule, changes)
    found = []
    for some in _sets_of_indexes(len(changes)):
        made = [changes[at] for at in some]
        if not _have_pair_twice(made) and not any([_is_part(one, some) for one in found]):
            if _keeps(_changed(rule, made)):
                found.append(some)
    return tuple(found)


def best_order(rule, ordered, stuff):
    """Return the least possible greatest amount in lots that do not declare this stuff, and a row of these products.

    None if there is no such row.
    """
    check_rule(rule)
    _check_ordered(rule, ordered)
    check_name(rule.works.stuffs, stuff)
    best = None
    for row in _rows_of(rule, ordered):
        amount = _most_in(rule, row, stuff)
        if best is None or is_less(amount, best[0]):
            best = (amount, row)
    return best


def _keeps(rule):
    """Tell whether the rule keeps the limits."""
    return first_above(rule) is None


def _changed(rule, changes):
    """Return the rule with these changes."""
    for first, second, cleaning in changes:
        rule = rule.changed(first, second, cleaning)
    return rule


def _with_keep(rule, cleaning, keep):
    """Return the rule of works in which this is the high keep of this cleaning."""
    works = rule.works
    cleanings = [
        (name, min(low, keep), keep) if name == cleaning else (name, low, high) for name, low, high in works.cleanings
    ]
    return Rule(Works(works.machines, tuple(cleanings), works.stuffs, works.products), rule.machine, rule.table)


def _check_changes(rule, changes):
    """Raise InvalidChanges if these are no changes of this rule."""
    if not isinstance(changes, tuple):
        raise InvalidChanges(None)
    for at, change in enumerate(changes):
        if at == MOST_CHANGES or not _is_change(rule.works, change):
            raise InvalidChanges(at)


def _is_change(works, change):
    """Tell whether these are two products and a cleaning, "-" or None."""
    if not isinstance(change, tuple) or len(change) != 3:
        return False
    first, second, cleaning = change
    if not is_name_of(works.products, first) or not is_name_of(works.products, second):
        return False
    return cleaning is None or is_cleaning(works, cleaning)


def _sets_of_indexes(many):
    """Return the list of all ascending tuples of indexes below this number, by their lengths, then ascending."""
    found = []
    longest = [()]
    while longest:
        found.extend(longest)
        longest = [some + (at,) for some in longest for at in range(many) if not some or some[-1] < at]
    return found


def _have_pair_twice(changes):
    """Tell whether two of these changes are of one pair."""
    pairs = [change[:2] for change in changes]
    return any([pair in pairs[:at] for at, pair in enumerate(pairs)])


def _is_part(one, other):
    """Tell whether all of the first tuple stands in the other one."""
    return all([at in other for at in one])


def _check_ordered(rule, ordered):
    """Raise InvalidOrdered if these are not one to six products of the works."""
    if not isinstance(ordered, tuple) or len(ordered) == 0:
        raise InvalidOrdered(None)
    for at, product in enumerate(ordered):
        if at == MOST_ORDERED or not is_name_of(rule.works.products, product):
            raise InvalidOrdered(at)


def _rows_of(rule, ordered):
    """Return the list of all rows of the rule of just these products, each one as often as it stands there."""
    products = [name for name, _ in rule.works.products if name in ordered]
    rows = [()]
    for _ in ordered:
        rows = [
            row + (product,)
            for row in rows for product in products
            if row.count(product) < ordered.count(product) and _may_follow(rule, row, product)
        ]
    return rows


def _may_follow(rule, row, product):
    """Tell whether this product may follow the last one of the row."""
    return not row or rule.cleaning(row[-1], product) is not None


def _most_in(rule, row, stuff):
    """Return the greatest amount of a lot of this row that does not declare the stuff, 0 if all declare it."""
    links = links_of(rule, stuff, HIGH)
    rest = MOST_SHARE - rule.works.hold(rule.machine)[0]
    most = (0, 1)
    residue = (0, 1)
    for at, product in enumerate(row):
        if at > 0:
            residue = left_behind(residue, links[(row[at - 1], product)])
        if not rule.works.declares(product, stuff) and is_less(most, residue):
            most = residue
    top, bottom = most
    return ratio(rest * top, MOST_SHARE * bottom)
