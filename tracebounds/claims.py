"""Claims of a book: which tuples are claims, and which of them hold."""

from tracebounds.amounts import greatest, least
from tracebounds.basics import is_index
from tracebounds.checks import is_name_of
from tracebounds.ever import first_above, lot_ever
from tracebounds.limits import MOST_CLAIMED
from tracebounds.plans import Plan
from tracebounds.ratios import is_less
from tracebounds.rules import Rule


def is_claim(value):
    """Tell whether this has one of the four forms, whatever stands in the places of names and lots."""
    if not isinstance(value, tuple) or not value or not isinstance(value[0], str):
        return False
    if value[0] == "keeps":
        return len(value) == 2
    if value[0] not in ("at most", "at least", "ever") or len(value) != 5:
        return False
    return is_index(value[4], MOST_CLAIMED + 1)


def first_broken(parts, claims, name):
    """Return the index of the first one of the claims that names this part and does not hold, or None.

    The parts are a dict of plans and rules under their names.
    """
    for at, claim in enumerate(claims):
        if claim[1] == name and not holds(parts, claim):
            return at
    return None


def holds(parts, claim):
    """Tell whether this claim holds if these parts, a dict, are the plans and rules."""
    word, name, *rest = claim
    # Not every value can be looked for in a dict.
    part = parts.get(name) if isinstance(name, str) else None
    if word == "keeps":
        return isinstance(part, Rule) and first_above(part) is None
    if word == "ever":
        return isinstance(part, Rule) and _holds_for_ever(part, *rest)
    return isinstance(part, Plan) and _holds_for_lot(part, word, *rest)


def _holds_for_ever(rule, product, stuff, most):
    """Tell whether there is a greatest amount ever, and it is at most this number."""
    if not is_name_of(rule.works.products, product) or not is_name_of(rule.works.stuffs, stuff):
        return False
    amount = lot_ever(rule, product, stuff)
    return amount is not None and not is_less((most, 1), amount)


def _holds_for_lot(plan, word, lot, stuff, number):
    """Tell whether the greatest amount is at most this number, or the least one at least this number."""
    if not is_index(lot, len(plan)) or not is_name_of(plan.works.stuffs, stuff):
        return False
    if word == "at most":
        return not is_less((number, 1), greatest(plan, lot, stuff))
    return not is_less(least(plan, lot, stuff), (number, 1))
