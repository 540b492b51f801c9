"""Answers as claims for the checker, each with a certificate."""

from tracebounds.amounts import greatest
from tracebounds.backward import steps_back
from tracebounds.basics import is_index
from tracebounds.checks import check_name
from tracebounds.errors import InvalidBound
from tracebounds.limits import MOST_CLAIMED, MOST_SHARE
from tracebounds.plans import check_lot_and_stuff
from tracebounds.ratios import is_less, ratio, span_of
from tracebounds.rings import amounts_ever, ways_ever
from tracebounds.rules import check_product_and_stuff, check_rule


def certify_most(plan, lot, stuff):
    """Return the claim that the greatest amount is at most what it is, and its certificate."""
    check_lot_and_stuff(plan, lot, stuff)
    unit, steps = _steps_to(plan, lot)
    rows = [tuple([ratio(on_machines[name][0], unit) for name in on_machines]) for _, on_machines, _ in steps]
    return (_claim_of_plan("most", plan, lot, stuff), tuple(rows))


def certify_reached(plan, lot, stuff):
    """Return the claim that some shares and contents lead to the greatest amount, and its certificate."""
    check_lot_and_stuff(plan, lot, stuff)
    _, steps = _steps_to(plan, lot)
    rows = [
        _shares_and_content(plan.works, deed, stuff, [ratio(share, MOST_SHARE) for share in shares])
        for deed, (_, _, shares) in zip(plan.deeds, steps)
    ]
    return (_claim_of_plan("reached", plan, lot, stuff), tuple(rows))


def certify_never(rule, stuff):
    """Return the claim that no residue is above the greatest one ever, and its certificate; None without end."""
    check_rule(rule)
    check_name(rule.works.stuffs, stuff)
    amounts = amounts_ever(rule, stuff)
    numbers = [amounts[name] for name, _ in rule.works.products]
    if None in numbers:
        return None
    _, most = span_of(numbers)
    return (("never", str(rule.works), str(rule), stuff, most), tuple(numbers))


def certify_above(rule, product, stuff, number):
    """Return the claim that some residue ahead of this product is above this number, and its certificate.

    None if there is no such residue.
    """
    check_product_and_stuff(rule, product, stuff)
    if not is_index(number, MOST_CLAIMED + 1):
        raise InvalidBound(number)
    amount = amounts_ever(rule, stuff)[product]
    if amount is not None and not is_less((number, 1), amount):
        return None
    claim = ("above", str(rule.works), str(rule), product, stuff, (number, 1))
    return (claim, ways_ever(rule, stuff)[product])


def _steps_to(plan, lot):
    """Return a unit, and the steps back from this lot for its greatest amount."""
    return steps_back(plan, {lot: (1, 0)}, (1, 0))


def _claim_of_plan(word, plan, lot, stuff):
    """Return the claim of this word about this lot, with its greatest amount."""
    return (word, str(plan.works), str(plan), lot, stuff, greatest(plan, lot, stuff))


def _shares_and_content(works, deed, stuff, shares):
    """Return what a certificate tells for this deed: its share, or the high content and the shares of a run."""
    if deed[0] == "clean":
        return shares[0]
    return (works.content(deed[1], stuff)[1], tuple(shares))
