"""What 1 of a stuff counts in the amounts of lots, found backward from the ends of their runs.

Shares that are the best ones for 1 are so for all that is there. So contents play no part here.
"""

from tracebounds.limits import MOST_SHARE

_NOTHING = (0, 0)


def count_back(plan, goals, direction):
    """Return a unit, and a list of what 1 in each lot counts at the beginning of its run, pairs of integers over it.

    The goals tell for some lots which pair 1 counts at the end of their runs; in all other lots it counts nothing
    then. All shares are such that the pairs come as far as they can in this direction, a pair of integers. The list
    goes up to the last lot of the goals: what comes behind it plays no part.
    """
    unit, steps = steps_back(plan, goals, direction)
    return (unit, [in_lot for in_lot, _, _ in steps if in_lot is not None])


def steps_back(plan, goals, direction):
    """Return a unit as count_back does, and a list of what 1 counts right before each deed, and of the shares for this.

    For each deed: what 1 counts in the lot of a run (None for a cleaning), what it counts on each machine (a dict), and
    the shares in the order of the machines, thousandths.
    """
    lot = max(list(goals))
    deeds = deeds_up_to(plan, lot)
    unit = _unit_of(deeds)
    on_machines = {row[0]: _NOTHING for row in plan.works.machines}
    steps = []
    for deed in deeds[::-1]:
        if deed[0] == "clean":
            step = _ahead_of_cleaning(plan.works, deed, on_machines, direction)
        else:
            in_lot = tuple([unit * number for number in goals.get(lot, _NOTHING)])
            step = _ahead_of_run(plan.works, deed, in_lot, on_machines, direction)
            lot -= 1
        on_machines = step[1]
        steps.append(step)
    steps.reverse()
    return (unit, steps)


def deeds_up_to(plan, lot):
    """Return the deeds from the first one to the run of this lot."""
    runs = [at for at, deed in enumerate(plan.deeds) if deed[0] == "run"]
    return plan.deeds[:runs[lot] + 1]


def _unit_of(deeds):
    """Return a unit over which all counts are integers: each share of these deeds divides by 1000 once."""
    shares = sum([len(deed[2]) if deed[0] == "run" else 1 for deed in deeds])
    unit = 1
    for _ in range(shares):
        unit = unit * MOST_SHARE
    return unit


def _ahead_of_cleaning(works, deed, on_machines, direction):
    """Return the step for a cleaning, on_machines being what 1 counts behind it."""
    _, machine, cleaning = deed
    share, count = _farthest(_NOTHING, on_machines[machine], works.keep(cleaning), direction)
    return (None, {**on_machines, machine: count}, (share,))


def _ahead_of_run(works, deed, in_lot, on_machines, direction):
    """Return the step for a run, in_lot and on_machines being what 1 counts behind it."""
    shares = []
    ahead = {name: on_machines[name] for name in on_machines}
    for machine in deed[2][::-1]:
        share, in_lot = _farthest(in_lot, on_machines[machine], works.hold(machine), direction)
        ahead[machine] = in_lot
        shares.append(share)
    return (in_lot, ahead, tuple(shares[::-1]))


def _farthest(rest, kept, bounds, direction):
    """Return the better one of these shares, and what 1 counts of which it counts like kept, the rest like rest."""
    low, high = [(share, _divided(rest, kept, share)) for share in bounds]
    return high if _reach(high[1], direction) > _reach(low[1], direction) else low


def _divided(rest, kept, share):
    """Return what 1 counts of which this share counts like kept, and the rest like rest."""
    return tuple([
        ((MOST_SHARE - share) * one + share * other) // MOST_SHARE for one, other in zip(rest, kept)
    ])


def _reach(pair, direction):
    """Return how far this pair is in this direction."""
    return pair[0] * direction[0] + pair[1] * direction[1]
