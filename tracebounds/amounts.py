"""How much of a stuff there can be in a lot, and how much there is at least."""

from tracebounds.backward import count_back
from tracebounds.plans import check_lot, check_lot_and_stuff, check_plan
from tracebounds.ratios import is_less, ratio


def greatest(plan, lot, stuff):
    """Return the greatest amount of this stuff in this lot."""
    check_lot_and_stuff(plan, lot, stuff)
    return _amount(plan, lot, stuff, True)


def least(plan, lot, stuff):
    """Return the least amount of this stuff in this lot."""
    check_lot_and_stuff(plan, lot, stuff)
    return _amount(plan, lot, stuff, False)


def weights(plan, lot, most):
    """Return what 1 in each lot up to this one counts in its greatest amount, or in its least if most is not true."""
    check_lot(plan, lot)
    unit, counts = _count_toward(plan, lot, most)
    return tuple([ratio(count, unit) for count in counts])


def verdict(plan, lot, stuff):
    """Tell whether this stuff must, or need not, be declared for this lot: a word."""
    check_lot_and_stuff(plan, lot, stuff)
    limit = (plan.works.limit(stuff), 1)
    if plan.works.declares(plan.lots[lot], stuff):
        return "contained"
    if is_less(limit, _amount(plan, lot, stuff, False)):
        return "needed"
    return "open" if is_less(limit, _amount(plan, lot, stuff, True)) else "needless"


def idle(plan):
    """Return the indexes of the cleanings without each of which, alone, all verdicts are as before."""
    check_plan(plan)
    before = _verdicts(plan)
    cleanings = [at for at, deed in enumerate(plan.deeds) if deed[0] == "clean"]
    return tuple([at for at in cleanings if _verdicts(plan.without(at)) == before])


def _verdicts(plan):
    """Return the verdicts on all lots and stuffs."""
    return [verdict(plan, lot, row[0]) for lot in range(len(plan)) for row in plan.works.stuffs]


def _amount(plan, lot, stuff, most):
    """Return the greatest amount, or the least one if most is not true."""
    unit, counts = _count_toward(plan, lot, most)
    contents = [plan.works.content(product, stuff) for product in plan.lots]
    total = sum([count * (high if most else low) for count, (low, high) in zip(counts, contents)])
    return ratio(total, unit)


def _count_toward(plan, lot, most):
    """Return a unit, and what 1 in each lot up to this one counts in this one, in integers over the unit."""
    unit, pairs = count_back(plan, {lot: (1, 0)}, (1, 0) if most else (-1, 0))
    return (unit, [count for count, _ in pairs])
