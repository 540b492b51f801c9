"""What a rule leaves for lots, behind one row and behind all rows, however long they are."""

from tracebounds.checks import is_name_of
from tracebounds.errors import InvalidRow
from tracebounds.limits import MOST_ROW, MOST_SHARE
from tracebounds.ratios import is_less, ratio
from tracebounds.rings import amounts_ever, reached_ever, ways_ever
from tracebounds.rows import HIGH, LOW, lead, links_of
from tracebounds.rules import check_product_and_stuff, check_rule


def residue(rule, row, product, stuff):
    """Return the least and the greatest residue ahead of this product behind this row."""
    check_product_and_stuff(rule, product, stuff)
    _check_row(rule, row, product)
    found = [lead((0, 1), links_of(rule, stuff, end), row + (product,)) for end in (LOW, HIGH)]
    return tuple([ratio(top, bottom) for top, bottom in found])


def ever(rule, product, stuff):
    """Return the greatest residue ever ahead of this product, or None if it grows without end."""
    check_product_and_stuff(rule, product, stuff)
    return amounts_ever(rule, stuff)[product]


def is_reached(rule, product, stuff):
    """Tell whether the greatest residue ever is the residue ahead of this product behind some row."""
    check_product_and_stuff(rule, product, stuff)
    return product in reached_ever(rule, stuff)


def shown(rule, product, stuff):
    """Return a pair (ring, tail) of rows that leads to the greatest residue ever, or to ever more without end."""
    check_product_and_stuff(rule, product, stuff)
    return ways_ever(rule, stuff)[product]


def lot_ever(rule, product, stuff):
    """Return the greatest amount ever of lots of this product, or None if there is none."""
    check_product_and_stuff(rule, product, stuff)
    return _let_go(rule, product, stuff, amounts_ever(rule, stuff)[product])


def first_above(rule):
    """Return the first product and stuff for which the rule does not keep the limits, or None if it keeps them."""
    check_rule(rule)
    amounts = {name: amounts_ever(rule, name) for name, _ in rule.works.stuffs}
    for product, _ in rule.works.products:
        for stuff, most in rule.works.stuffs:
            if not rule.works.declares(product, stuff):
                amount = _let_go(rule, product, stuff, amounts[stuff][product])
                if amount is None or is_less((most, 1), amount):
                    return (product, stuff)
    return None


def _let_go(rule, product, stuff, amount):
    """Return what a lot of this product lets go on at most, ahead of which there is this amount (None: without end)."""
    rest = MOST_SHARE - rule.works.hold(rule.machine)[0]
    if rest == 0:
        return (0, 1)
    if amount is None:
        return None
    top, bottom = amount
    content = rule.works.content(product, stuff)[1]
    return ratio(rest * (top + content * bottom), MOST_SHARE * bottom)


def _check_row(rule, row, product):
    """Raise InvalidRow if this is no row of the rule that this product may follow."""
    if not isinstance(row, tuple):
        raise InvalidRow(None)
    for at, name in enumerate(row):
        if at == MOST_ROW or not is_name_of(rule.works.products, name):
            raise InvalidRow(at)
        if at > 0 and rule.cleaning(row[at - 1], name) is None:
            raise InvalidRow(at)
    if row and rule.cleaning(row[-1], product) is None:
        raise InvalidRow(len(row))
