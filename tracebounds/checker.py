"""The checker: what it accepts is true, whoever wrote it."""

from tracebounds.backward import deeds_up_to
from tracebounds.basics import is_index, is_integer
from tracebounds.checks import is_name_of
from tracebounds.errors import InvalidText
from tracebounds.limits import MOST_ROW, MOST_SHARE
from tracebounds.plans import Plan
from tracebounds.ratios import is_less, is_ratio, plus, ratio, times
from tracebounds.rows import HIGH, lead_again, left_behind, links_of
from tracebounds.rules import Rule
from tracebounds.works import Works

_NOTHING = (0, 1)
_ALL = (1, 1)


def accepts(claim, certificate):
    """Tell whether this is a claim for the checker, and this a certificate for it; any values may stand here."""
    if not isinstance(claim, tuple) or not claim or not isinstance(certificate, tuple):
        return False
    word, *told = claim
    if not isinstance(word, str):
        return False
    if word in ("most", "reached") and len(told) == 5:
        return _accepts_of_plan(word, told, certificate)
    if word == "never" and len(told) == 4:
        return _accepts_never(told, certificate)
    if word == "above" and len(told) == 5:
        return _accepts_above(told, certificate)
    return False


def _accepts_of_plan(word, told, certificate):
    """Tell whether this is right for a claim about a lot of a plan, told being what stands behind its word."""
    works_text, plan_text, lot, stuff, bound = told
    plan = _plan_of(works_text, plan_text)
    if plan is None or not is_index(lot, len(plan)) or not _are_valid(plan.works, stuff, bound):
        return False
    deeds = deeds_up_to(plan, lot)
    if len(certificate) != len(deeds):
        return False
    if word == "most":
        return _bounds_all(plan.works, deeds, stuff, bound, certificate)
    amount = _amount_of(plan.works, deeds, stuff, certificate)
    return amount is not None and not is_less(amount, bound)


def _bounds_all(works, deeds, stuff, bound, certificate):
    """Tell whether these rows of numbers show that the last lot of these deeds has at most this."""
    behind = {row[0]: _NOTHING for row in works.machines}
    in_lot = _ALL
    total = _NOTHING
    for deed, numbers in zip(deeds[::-1], certificate[::-1]):
        told = _numbers_by_name(works.machines, numbers)
        if told is None:
            return False
        needed, weight = _needed_ahead(works, deed, behind, in_lot)
        if any([is_less(told[name], needed[name]) for name in told]):
            return False
        if deed[0] == "run":
            content = works.content(deed[1], stuff)[1]
            total = plus(total, times(weight, (content, 1)))
            in_lot = _NOTHING
        behind = told
    return not is_less(bound, total)


def _needed_ahead(works, deed, behind, in_lot):
    """Return what 1 on each machine counts at most right before this deed, a dict, and what 1 in its lot does.

    Behind the deed they count this much.
    """
    needed = {name: behind[name] for name in behind}
    if deed[0] == "clean":
        _, machine, cleaning = deed
        needed[machine] = _greater_mixed(_NOTHING, behind[machine], works.keep(cleaning))
        return (needed, _NOTHING)
    for machine in deed[2][::-1]:
        in_lot = _greater_mixed(in_lot, behind[machine], works.hold(machine))
        needed[machine] = in_lot
    return (needed, in_lot)


def _greater_mixed(rest, kept, bounds):
    """Return the greater number at the ends of these bounds of a share that counts like kept, the rest like rest."""
    low, high = [
        plus(times(ratio(MOST_SHARE - share, MOST_SHARE), rest), times(ratio(share, MOST_SHARE), kept))
        for share in bounds
    ]
    return high if is_less(low, high) else low


def _amount_of(works, deeds, stuff, certificate):
    """Return the amount of the last lot of these deeds with these contents and shares, None if they are not valid."""
    on_machines = {row[0]: _NOTHING for row in works.machines}
    amount = None
    for deed, told in zip(deeds, certificate):
        if deed[0] == "clean":
            _, machine, cleaning = deed
            share = _number_within(told, works.keep(cleaning), MOST_SHARE)
            if share is None:
                return None
            on_machines[machine] = times(share, on_machines[machine])
        else:
            amount = _run_through(works, deed, stuff, told, on_machines)
            if amount is None:
                return None
    return amount


def _run_through(works, deed, stuff, told, on_machines):
    """Return the amount of the lot of this run, and change what is on the machines; None if this is not valid."""
    _, product, machines = deed
    if not isinstance(told, tuple) or len(told) != 2:
        return None
    content, shares = told
    in_lot = _number_within(content, works.content(product, stuff), 1)
    if in_lot is None or not isinstance(shares, tuple) or len(shares) != len(machines):
        return None
    for machine, number in zip(machines, shares):
        share = _number_within(number, works.hold(machine), MOST_SHARE)
        if share is None:
            return None
        both = plus(in_lot, on_machines[machine])
        on_machines[machine] = times(share, both)
        top, bottom = share
        in_lot = times(ratio(bottom - top, bottom), both)
    return in_lot


def _accepts_never(told, certificate):
    """Tell whether this is right for a claim about all rows of a rule, told being what stands behind its word."""
    works_text, rule_text, stuff, bound = told
    rule = _rule_of(works_text, rule_text)
    if rule is None or not _are_valid(rule.works, stuff, bound):
        return False
    numbers = _numbers_by_name(rule.works.products, certificate)
    if numbers is None or any([is_less(bound, numbers[name]) for name in numbers]):
        return False
    links = links_of(rule, stuff, HIGH)
    return all([
        not is_less(numbers[second], left_behind(numbers[first], links[(first, second)])) for first, second in links
    ])


def _accepts_above(told, certificate):
    """Tell whether this is right for a claim about some row of a rule, told being what stands behind its word."""
    works_text, rule_text, product, stuff, bound = told
    rule = _rule_of(works_text, rule_text)
    if rule is None or not is_name_of(rule.works.products, product) or not _are_valid(rule.works, stuff, bound):
        return False
    links = links_of(rule, stuff, HIGH)
    if not _is_way(rule, links, certificate, product):
        return False
    ring, tail = certificate
    residue = lead_again(links, ring, tail + (product,))
    return residue is None or is_less(bound, residue)


def _is_way(rule, links, value, product):
    """Tell whether this is a pair of a ring, that may be gone through again and again, and of a tail to the product."""
    if len(value) != 2 or not isinstance(value[0], tuple) or not isinstance(value[1], tuple):
        return False
    ring, tail = value
    if len(ring) + len(tail) > MOST_ROW or (ring and not tail):
        return False
    if not all([is_name_of(rule.works.products, name) for name in ring + tail]):
        return False
    row = ring + tail + (product,)
    pairs = list(zip(row, row[1:])) + list(zip(ring, ring[1:] + ring[:1]))
    return all([pair in links for pair in pairs])


def _plan_of(works_text, text):
    """Return the plan with this text, of the works with this text, or None."""
    try:
        plan = Plan.read(Works.read(works_text), text)
    except InvalidText:
        return None
    return plan


def _rule_of(works_text, text):
    """Return the rule with this text, of the works with this text, or None."""
    try:
        rule = Rule.read(Works.read(works_text), text)
    except InvalidText:
        return None
    return rule


def _are_valid(works, stuff, bound):
    """Tell whether these are a stuff of these works and a fraction from 0 on."""
    return is_name_of(works.stuffs, stuff) and is_ratio(bound)


def _number(value):
    """Return the fraction that this number stands for, None if it is neither an integer nor a fraction from 0 on."""
    number = (value, 1) if is_integer(value) else value
    return number if is_ratio(number) else None


def _number_within(value, bounds, unit):
    """Return the fraction that this number stands for, None if it is none within these bounds, told in this unit."""
    number = _number(value)
    if number is None:
        return None
    low, high = [(end, unit) for end in bounds]
    return None if is_less(number, low) or is_less(high, number) else number


def _numbers_by_name(rows, values):
    """Return the fractions for these numbers under the names of the rows, None if they are not one for each."""
    if not isinstance(values, tuple) or len(values) != len(rows):
        return None
    numbers = [_number(value) for value in values]
    if None in numbers:
        return None
    return {row[0]: number for row, number in zip(rows, numbers)}
