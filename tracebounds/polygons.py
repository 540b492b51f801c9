"""Convex polygons, sides and points: tuples of their corners, counterclockwise from the least one on.

Corners are pairs of integers; a side has two of them, a point one.
"""

from tracebounds.ratios import ratio, span_of

_AXES = ((1, 0), (0, 1), (-1, 0), (0, -1))


def outline(ask):
    """Return the corners of what is asked for: ask(direction) tells a point of it that is farthest there."""
    corners = hull([ask(axis) for axis in _AXES])
    asked = {}
    grows = True
    while grows:
        grows = False
        found = []
        for side in sides(corners):
            if side not in asked:
                asked[side] = True
                point = ask(_outward(side))
                if _turn(side, point) < 0:
                    found.append(point)
                    grows = True
        corners = hull(list(corners) + found)
    return corners


def hull(points):
    """Return the corners of the least polygon that has all these points."""
    there = sorted(set(points))
    if len(there) == 1:
        return tuple(there)
    return tuple(_chain(there) + _chain(there[::-1]))


def sides(corners):
    """Return the list of the pairs of neighbouring corners, counterclockwise; a side goes there and back."""
    return [(corners[at - 1], corner) for at, corner in enumerate(corners)]


def across(corners, low, high):
    """Return the least and the greatest first number, fractions, where the second one is from low to high.

    None if it is nowhere. There is no upper bound if high is None.
    """
    found = [(x, 1) for x, y in corners if low <= y and (high is None or y <= high)]
    for level in (low, high):
        if level is not None:
            found.extend(_crossings(corners, level))
    return span_of(found) if found else None


def _chain(points):
    """Return the corners from the first one to ahead of the last one of these, turning left alone."""
    chain = []
    for point in points:
        while len(chain) > 1 and _turn((chain[-2], chain[-1]), point) <= 0:
            chain.pop()
        chain.append(point)
    return chain[:-1]


def _turn(side, point):
    """Return a number above 0 if this point is to the left of this side, below 0 to the right, 0 in line with it."""
    (x, y), (to_x, to_y) = side
    return (to_x - x) * (point[1] - y) - (to_y - y) * (point[0] - x)


def _outward(side):
    """Return the direction to the right of this side."""
    (x, y), (to_x, to_y) = side
    return (to_y - y, x - to_x)


def _crossings(corners, level):
    """Return the first numbers, fractions, at which sides cross the level of the second one, not at their corners."""
    found = []
    for one, other in sides(corners):
        (x, y), (to_x, to_y) = (one, other) if one[1] < other[1] else (other, one)
        if y < level < to_y:
            found.append(ratio(x * (to_y - y) + (level - y) * (to_x - x), to_y - y))
    return found
