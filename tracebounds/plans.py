"""Plans: rows of runs, each of which makes a lot, and of cleanings."""

from tracebounds.basics import is_index
from tracebounds.checks import check_name, check_works, is_name_of
from tracebounds.errors import InvalidDeeds, InvalidIndex, InvalidLot, InvalidText, NotAPlan
from tracebounds.limits import MOST_DEEDS, MOST_LOTS, MOST_PASSED


class Plan:
    """A row of deeds, runs and cleanings, of works."""

    def __init__(self, works, deeds):
        check_works(works)
        _check_deeds(works, deeds)
        self._works = works
        self._deeds = deeds
        self._lots = tuple([deed[1] for deed in deeds if deed[0] == "run"])
        self._text = "\n".join([_line(deed) for deed in deeds])

    @staticmethod
    def read(works, text):
        """Return the plan of these works with this text; InvalidText for anything else."""
        check_works(works)
        if not isinstance(text, str):
            raise InvalidText(text)
        lines = text.split("\n") if text else []
        try:
            plan = Plan(works, tuple([_read_deed(line) for line in lines]))
        except InvalidDeeds:
            raise InvalidText(text) from None
        return plan

    @property
    def works(self):
        """The works."""
        return self._works

    @property
    def deeds(self):
        """The tuple of the deeds."""
        return self._deeds

    @property
    def lots(self):
        """The tuple of the products of the lots."""
        return self._lots

    def without(self, index):
        """Return the plan without the deed with this index."""
        if not is_index(index, len(self._deeds)):
            raise InvalidIndex(index)
        return Plan(self._works, self._deeds[:index] + self._deeds[index + 1:])

    def __len__(self):
        return len(self._lots)

    def __bool__(self):
        # Without this a plan without lots would be false.
        return True

    def __eq__(self, other):
        return isinstance(other, Plan) and self._works == other._works and self._deeds == other._deeds

    def __str__(self):
        return str(self._text)


def check_plan(plan):
    """Raise NotAPlan if this is no Plan."""
    if not isinstance(plan, Plan):
        raise NotAPlan(plan)


def check_lot(plan, lot):
    """Raise NotAPlan, or InvalidLot if this is no number of a lot of the plan."""
    check_plan(plan)
    if not is_index(lot, len(plan)):
        raise InvalidLot(lot)


def check_lot_and_stuff(plan, lot, stuff):
    """Raise the error of the first of these that is not valid, if there is one."""
    check_lot(plan, lot)
    check_name(plan.works.stuffs, stuff)


def _check_deeds(works, deeds):
    """Raise InvalidDeeds if these are no deeds of these works."""
    if not isinstance(deeds, tuple):
        raise InvalidDeeds(None)
    lots = 0
    for at, deed in enumerate(deeds):
        if at == MOST_DEEDS or not _is_deed(works, deed):
            raise InvalidDeeds(at)
        if deed[0] == "run":
            lots += 1
        if lots > MOST_LOTS:
            raise InvalidDeeds(at)


def _is_deed(works, deed):
    """Tell whether this is a deed of these works."""
    if not isinstance(deed, tuple) or len(deed) != 3 or not isinstance(deed[0], str):
        return False
    word, first, second = deed
    if word == "run":
        return is_name_of(works.products, first) and _are_passed(works, second)
    return word == "clean" and is_name_of(works.machines, first) and is_name_of(works.cleanings, second)


def _are_passed(works, machines):
    """Tell whether these are machines that a lot can pass, in this order."""
    if not isinstance(machines, tuple) or not 1 <= len(machines) <= MOST_PASSED:
        return False
    for at, machine in enumerate(machines):
        if not is_name_of(works.machines, machine) or machine in machines[:at]:
            return False
    return True


def _line(deed):
    """Return the line of a deed."""
    word, first, second = deed
    if word == "run":
        return " ".join([word, first, *second])
    return " ".join([word, first, second])


def _read_deed(line):
    """Return what this line tells; plans refuse it if it is no deed."""
    words = line.split(" ")
    if words[0] == "run" and len(words) > 1:
        return ("run", words[1], tuple(words[2:]))
    return tuple(words)
