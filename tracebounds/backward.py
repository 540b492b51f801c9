"""What 1 of a stuff counts in the amounts of lots, found backward from the ends of their runs.

Shares that are the best ones for 1 are so for all that is there. So contents play no part here.
"""

from tracebounds.limits import MOST_SHARE

_NOTHING = (0, 0)


def count_back(plan, goals, direction):
    """Return a unit, and a list of what 1 in each lot counts at the beginning of its run, pairs of integers over it.

    The goals tell for some lots which pair 1 counts at the end of their runs; in all other lots it counts nothing
    then. All shares are such that the pairs come as far as they can in this direction, a pair of integers. The list
    goes up to the last lot of the goals: what comes behind it plays no part.
    """
    lot = max(list(goals))
    deeds = _deeds_up_to(plan.deeds, lot)
    unit = _unit_of(deeds)
    on_machines = {row[0]: _NOTHING for row in plan.works.machines}
    counts = []
    for deed in deeds[::-1]:
        if deed[0] == "clean":
            _, machine, cleaning = deed
            keep = plan.works.keep(cleaning)
            on_machines[machine] = _farthest(_NOTHING, on_machines[machine], keep, direction)
        else:
            in_lot = tuple([unit * number for number in goals.get(lot, _NOTHING)])
            counts.append(_count_run(plan.works, deed[2], in_lot, on_machines, direction))
            lot -= 1
    counts.reverse()
    return (unit, counts)


def _deeds_up_to(deeds, lot):
    """Return the deeds from the first one to the run of this lot."""
    runs = [at for at, deed in enumerate(deeds) if deed[0] == "run"]
    return deeds[:runs[lot] + 1]


def _unit_of(deeds):
    """Return a unit over which all counts are integers: each share of these deeds divides by 1000 once."""
    shares = sum([len(deed[2]) if deed[0] == "run" else 1 for deed in deeds])
    unit = 1
    for _ in range(shares):
        unit = unit * MOST_SHARE
    return unit


def _count_run(works, machines, in_lot, on_machines, direction):
    """Return what 1 in a lot counts ahead of these machines, in_lot being what it counts behind them.

    What 1 on each machine counts is changed to what it counts ahead of the run.
    """
    for machine in machines[::-1]:
        in_lot = _farthest(in_lot, on_machines[machine], works.hold(machine), direction)
        on_machines[machine] = in_lot
    return in_lot


def _farthest(rest, kept, bounds, direction):
    """Return what 1 counts of which a share within these bounds counts like kept, and the rest like rest."""
    low, high = [_divided(rest, kept, share) for share in bounds]
    return high if _reach(high, direction) > _reach(low, direction) else low


def _divided(rest, kept, share):
    """Return what 1 counts of which this share counts like kept, and the rest like rest."""
    return tuple([
        ((MOST_SHARE - share) * one + share * other) // MOST_SHARE for one, other in zip(rest, kept)
    ])


def _reach(pair, direction):
    """Return how far this pair is in this direction."""
    return pair[0] * direction[0] + pair[1] * direction[1]
