"""Which pairs of amounts two lots can have, and what a measured lot tells of another one."""

from tracebounds.backward import count_back
from tracebounds.basics import is_integer
from tracebounds.checks import check_name
from tracebounds.errors import InvalidBound, InvalidLot
from tracebounds.limits import MOST_CLAIMED
from tracebounds.plans import check_lot, check_lot_and_stuff
from tracebounds.polygons import across, outline
from tracebounds.ratios import is_less, minus, ratio


def corners(plan, lot, other, stuff):
    """Return the corners of the set of the pairs of amounts that these two lots can have."""
    _check(plan, lot, other, stuff)
    unit, points = _outline(plan, lot, other, stuff)
    return tuple([(ratio(x, unit), ratio(y, unit)) for x, y in points])


def measured(plan, lot, other, stuff, low, high):
    """Return the least and the greatest amount of the lot if that of the other one is from low to high."""
    _check(plan, lot, other, stuff)
    _check_bounds(low, high)
    unit, points = _outline(plan, lot, other, stuff)
    span = across(points, low * unit, None if high is None else high * unit)
    if span is None:
        return None
    return tuple([ratio(top, bottom * unit) for top, bottom in span])


def best_test(plan, lot, stuff):
    """Return the first one of the other lots that tell most of this lot, and the width that is left then."""
    check_lot_and_stuff(plan, lot, stuff)
    best = None
    for other in range(len(plan)):
        if other != lot:
            width = _width_left(plan, lot, other, stuff)
            if best is None or is_less(width, best[1]):
                best = (other, width)
    return best


def _check(plan, lot, other, stuff):
    """Raise the error of the first of these that is not valid, if there is one."""
    check_lot(plan, lot)
    check_lot(plan, other)
    if other == lot:
        raise InvalidLot(other)
    check_name(plan.works.stuffs, stuff)


def _check_bounds(low, high):
    """Raise InvalidBound if these are no bounds of what was measured."""
    if not is_integer(low) or not 0 <= low <= MOST_CLAIMED:
        raise InvalidBound(low)
    if high is not None and (not is_integer(high) or not low <= high <= MOST_CLAIMED):
        raise InvalidBound(high)


def _outline(plan, lot, other, stuff):
    """Return a unit, and the corners of the set of the pairs of amounts, in integers over it."""
    goals = {lot: (1, 0), other: (0, 1)}
    unit, _ = count_back(plan, goals, (1, 0))
    contents = [plan.works.content(product, stuff) for product in plan.lots]
    points = outline(lambda direction: _farthest_pair(plan, goals, contents, direction))
    return (unit, points)


def _farthest_pair(plan, goals, contents, direction):
    """Return a pair of amounts, in units, of those that are farthest in this direction."""
    x, y = 0, 0
    _, counts = count_back(plan, goals, direction)
    for (to_x, to_y), (low, high) in zip(counts, contents):
        content = high if to_x * direction[0] + to_y * direction[1] > 0 else low
        x += content * to_x
        y += content * to_y
    return (x, y)


def _width_left(plan, lot, other, stuff):
    """Return how far apart the amounts of this lot can be at most while that of the other one is known."""
    unit, points = _outline(plan, lot, other, stuff)
    widest = (0, 1)
    # Between two levels of corners the width changes evenly, so it is greatest at one of them.
    for level in [y for _, y in points]:
        least, most = across(points, level, level)
        width = minus(most, least)
        if is_less(widest, width):
            widest = width
    return ratio(widest[0], widest[1] * unit)
