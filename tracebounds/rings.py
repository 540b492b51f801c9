"""The greatest residues ever of a rule: which products, gone through again and again, lead to them.

Ways are pairs (ring, tail) of rows: the ring is gone through again and again, and then the tail once.
"""

from tracebounds.ratios import is_less, ratio
from tracebounds.rows import HIGH, UNIT, lead, lead_again, left_behind, links_of


def ways_ever(rule, stuff):
    """Return for each product a way to its greatest residue ever, or one on which it grows without end: a dict."""
    links = links_of(rule, stuff, HIGH)
    # Behind a factor 0 nothing is left, as ahead of a first lot.
    leaving = {pair: links[pair] for pair in links if links[pair][0] > 0}
    products = [row[0] for row in rule.works.products]
    endless = _ways_without_end(leaving, products)
    settled = {pair: leaving[pair] for pair in leaving if pair[1] not in endless}
    best = _best_ways(settled, [product for product in products if product not in endless])
    return {product: endless[product] if product in endless else best[product] for product in products}


def amounts_ever(rule, stuff):
    """Return for each product its greatest residue ever, a fraction, or None without end: a dict."""
    links = links_of(rule, stuff, HIGH)
    ways = ways_ever(rule, stuff)
    return {product: _come_to(links, ways[product], product) for product in ways}


def reached_ever(rule, stuff):
    """Return the list of the products whose greatest residue ever is the residue ahead of them behind some row."""
    links = links_of(rule, stuff, HIGH)
    amounts = amounts_ever(rule, stuff)
    reached = [product for product in amounts if amounts[product] == (0, 1)]
    grows = True
    while grows:
        grows = False
        for first, second in links:
            # Only behind the greatest residue ahead of the first product there can be the greatest one of the second.
            if first in reached and second not in reached:
                top, bottom = left_behind(amounts[first], links[(first, second)])
                if ratio(top, bottom) == amounts[second]:
                    reached.append(second)
                    grows = True
    return reached


def _come_to(links, way, product):
    """Return what the residue ahead of this product comes nearer to on this way, a fraction, or None without end."""
    ring, tail = way
    residue = lead_again(links, ring, tail + (product,))
    if residue is None:
        return None
    top, bottom = residue
    return ratio(top, bottom)


def _ways_without_end(links, products):
    """Return ways for the products for which the residue grows without end: a dict."""
    whole = {pair: links[pair] for pair in links if links[pair][0] == UNIT}
    ways = {}
    for start in products:
        ring = _path(whole, start, start)
        if ring and lead((0, 1), links, ring + (start,))[0] > 0:
            for product in products:
                tail = _path(links, start, product)
                if tail and product not in ways:
                    ways[product] = (ring, tail)
    return ways


def _path(links, start, end):
    """Return a shortest row from this product on that the other one may follow, or () if there is none."""
    paths = [(start,)]
    taken = [start]
    at = 0
    while at < len(paths):
        path = paths[at]
        at += 1
        for first, second in links:
            if first == path[-1] and second == end:
                return path
            if first == path[-1] and second not in taken:
                taken.append(second)
                paths.append(path + (second,))
    return ()


def _best_ways(links, products):
    """Return the best ways to these products, none of which grows without end: a dict.

    Each product has the one ahead of it from which it came to most so far. As long as a product comes to more from
    another one, it gets that one; so the amounts only grow, and no such choice of products comes twice.
    """
    ahead = {}
    grows = True
    while grows:
        ways = {product: _way_back(ahead, product) for product in products}
        better = _better(links, {product: _come_to(links, ways[product], product) for product in products})
        ahead = {**ahead, **better}
        grows = len(better) > 0
    return ways


def _better(links, amounts):
    """Return the products that come to more than these amounts from another one, each with the best one: a dict."""
    found = {}
    most = {product: amounts[product] for product in amounts}
    for first, second in links:
        residue = left_behind(amounts[first], links[(first, second)])
        if is_less(most[second], residue):
            most[second] = residue
            found[second] = first
    return found


def _way_back(ahead, product):
    """Return the way that leads to this product if each product stands behind the one that is ahead of it."""
    back = [product]
    while back[-1] in ahead and ahead[back[-1]] not in back:
        back.append(ahead[back[-1]])
    if back[-1] not in ahead:
        return ((), tuple(back[:0:-1]))
    begin = back.index(ahead[back[-1]])
    ring = back[begin:]
    # The tail may not be empty, so it takes something of the ring where the product itself stands in it.
    last = max(1, begin - 1)
    back = back + ring + ring
    return (tuple(back[last + len(ring):last:-1]), tuple(back[last:0:-1]))
