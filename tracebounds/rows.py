"""Rows of lots on the machine of a rule: what is on it ahead of the next one.

Residues are pairs (top, bottom) here, which may have a common divisor. Links tell for each pair of the table what is
left between its lots: a share in units, and the content of the first lot, both at the same end of their bounds.
"""

from tracebounds.limits import MOST_SHARE
from tracebounds.rules import NO_CLEANING

LOW = 0
HIGH = 1
# A share is left of another share: two divisions by 1000.
UNIT = MOST_SHARE * MOST_SHARE


def links_of(rule, stuff, end):
    """Return the links of this rule for this stuff, at the LOW or the HIGH end: a dict."""
    hold = rule.works.hold(rule.machine)[end]
    contents = {row[0]: rule.works.content(row[0], stuff)[end] for row in rule.works.products}
    keeps = {name: bounds[end] for name, *bounds in rule.works.cleanings}
    keeps[NO_CLEANING] = MOST_SHARE
    return {(first, second): (hold * keeps[cleaning], contents[first]) for first, second, cleaning in rule.table}


def left_behind(residue, link):
    """Return what is left of this residue and the lot behind it."""
    top, bottom = residue
    share, content = link
    return (share * (top + content * bottom), UNIT * bottom)


def lead(residue, links, row):
    """Return the residue ahead of the last product of this row if this one is ahead of the first one."""
    for pair in zip(row, row[1:]):
        residue = left_behind(residue, links[pair])
    return residue


def lead_again(links, ring, row):
    """Return what the residue ahead of the last product of this row comes nearer and nearer to, or None without end.

    The ring is gone through again and again, from nothing on, and then the row once. There may be no ring.
    """
    residue = _ahead_of_ring(links, ring) if ring else (0, 1)
    whole = ring + row
    for pair in zip(whole, whole[1:]):
        if residue is not None:
            residue = left_behind(residue, links[pair])
        elif links[pair][0] == 0:
            # A share of nothing leaves nothing, whatever there was.
            residue = (0, 1)
    return residue


def _ahead_of_ring(links, ring):
    """Return what the residue ahead of the first product of the ring comes nearer to, or None without end."""
    top, bottom = lead((0, 1), links, ring + ring[:1])
    share = 1
    for pair in zip(ring, ring[1:] + ring[:1]):
        share = share * links[pair][0]
    if top == 0:
        return (0, 1)
    return (top, bottom - share) if share < bottom else None
