"""Rules: which lots are let behind which ones on a machine, and how it is cleaned between them."""

from tracebounds.checks import check_name, check_works, is_name_of
from tracebounds.errors import InvalidTable, InvalidText, NotARule, UnknownName
from tracebounds.limits import MOST_SHARE
from tracebounds.ratios import ratio

NO_CLEANING = "-"


class Rule:
    """A machine of works, and a table of the cleanings between lots of products that are let."""

    def __init__(self, works, machine, table):
        check_works(works)
        check_name(works.machines, machine)
        _check_table(works, table)
        self._works = works
        self._machine = machine
        self._table = table
        self._let = {(first, second): cleaning for first, second, cleaning in table}
        lines = [f"rule {machine}"] + [" ".join(row) for row in table]
        self._text = "\n".join(lines)

    @staticmethod
    def read(works, text):
        """Return the rule of these works with this text; InvalidText for anything else."""
        check_works(works)
        if not isinstance(text, str):
            raise InvalidText(text)
        head, *rows = [tuple(line.split(" ")) for line in text.split("\n")]
        if len(head) != 2 or head[0] != "rule":
            raise InvalidText(text)
        try:
            rule = Rule(works, head[1], tuple(rows))
        except (UnknownName, InvalidTable):
            raise InvalidText(text) from None
        return rule

    @property
    def works(self):
        """The works."""
        return self._works

    @property
    def machine(self):
        """The name of the machine."""
        return self._machine

    @property
    def table(self):
        """The tuple of the triples (first, second, cleaning)."""
        return self._table

    def cleaning(self, first, second):
        """Return the cleaning between lots of these products, "-" for none, or None if they are not let."""
        self._check_pair(first, second)
        return self._let.get((first, second))

    def factor(self, first, second):
        """Return the greatest share that is left ahead of the second product, or None if it is not let."""
        cleaning = self.cleaning(first, second)
        if cleaning is None:
            return None
        kept = MOST_SHARE if cleaning == NO_CLEANING else self._works.keep(cleaning)[1]
        return ratio(self._works.hold(self._machine)[1] * kept, MOST_SHARE * MOST_SHARE)

    def changed(self, first, second, cleaning):
        """Return the rule with this cleaning between these products, or without this pair for None."""
        self._check_pair(first, second)
        if cleaning is not None and not is_cleaning(self._works, cleaning):
            raise UnknownName(cleaning)
        let = {pair: self._let[pair] for pair in self._let if cleaning is not None or pair != (first, second)}
        if cleaning is not None:
            # A pair that is there keeps its place, a new one comes behind the others.
            let[(first, second)] = cleaning
        return Rule(self._works, self._machine, tuple([(*pair, let[pair]) for pair in let]))

    def _check_pair(self, first, second):
        """Raise UnknownName for the first of these that is no product."""
        check_name(self._works.products, first)
        check_name(self._works.products, second)

    def __eq__(self, other):
        return (
            isinstance(other, Rule)
            and self._works == other._works
            and self._machine == other._machine
            and self._let == other._let
        )

    def __str__(self):
        return str(self._text)


def check_rule(rule):
    """Raise NotARule if this is no Rule."""
    if not isinstance(rule, Rule):
        raise NotARule(rule)


def check_product_and_stuff(rule, product, stuff):
    """Raise the error of the first of these that is not valid, if there is one."""
    check_rule(rule)
    check_name(rule.works.products, product)
    check_name(rule.works.stuffs, stuff)


def _check_table(works, table):
    """Raise InvalidTable if this is no table of a rule of these works."""
    if not isinstance(table, tuple):
        raise InvalidTable(None)
    taken = {}
    for at, row in enumerate(table):
        if not _is_row(works, row) or row[:2] in taken:
            raise InvalidTable(at)
        taken[row[:2]] = True


def _is_row(works, row):
    """Tell whether these are two products and a cleaning, or "-"."""
    if not isinstance(row, tuple) or len(row) != 3:
        return False
    first, second, cleaning = row
    return is_name_of(works.products, first) and is_name_of(works.products, second) and is_cleaning(works, cleaning)


def is_cleaning(works, value):
    """Tell whether this is a cleaning of these works, or "-" for none."""
    return is_name_of(works.cleanings, value) or (isinstance(value, str) and value == NO_CLEANING)
