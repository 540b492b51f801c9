"""Works: the machines, cleanings, stuffs and products that there are."""

from tracebounds.basics import is_integer, is_name, read_number
from tracebounds.errors import (
    InvalidCleanings,
    InvalidMachines,
    InvalidProducts,
    InvalidStuffs,
    InvalidText,
    UnknownName,
    WrongValue,
)
from tracebounds.limits import (
    MOST_AMOUNT,
    MOST_CLEANINGS,
    MOST_MACHINES,
    MOST_PRODUCTS,
    MOST_SHARE,
    MOST_STUFFS,
)


class Works:
    """Machines, cleanings, stuffs and products, each of them in an order and with a name."""

    def __init__(self, machines, cleanings, stuffs, products):
        _check(machines, cleanings, stuffs, products)
        self._machines = machines
        self._cleanings = cleanings
        self._stuffs = stuffs
        self._products = products
        self._holds = {name: (low, high) for name, low, high in machines}
        self._keeps = {name: (low, high) for name, low, high in cleanings}
        self._limits = {name: most for name, most in stuffs}
        self._contents = {name: _by_stuff(stuffs, contents) for name, contents in products}
        self._text = _text_of(machines, cleanings, stuffs, products)

    @staticmethod
    def read(text):
        """Return the works with this text; InvalidText for anything else."""
        if not isinstance(text, str):
            raise InvalidText(text)
        try:
            works = _read_works(text)
        except WrongValue:
            raise InvalidText(text) from None
        # The lines were read in whatever order their kinds stand; only one order is right.
        if str(works) != text:
            raise InvalidText(text)
        return works

    @property
    def machines(self):
        """The tuple of (name, low, high), low and high being the bounds of the hold."""
        return self._machines

    @property
    def cleanings(self):
        """The tuple of (name, low, high), low and high being the bounds of the keep."""
        return self._cleanings

    @property
    def stuffs(self):
        """The tuple of (name, limit)."""
        return self._stuffs

    @property
    def products(self):
        """The tuple of (name, contents), contents being a pair of bounds for each stuff."""
        return self._products

    def hold(self, machine):
        """Return the bounds of what this machine keeps, in thousandths."""
        return _of_name(self._holds, machine)

    def keep(self, cleaning):
        """Return the bounds of what this cleaning leaves, in thousandths."""
        return _of_name(self._keeps, cleaning)

    def content(self, product, stuff):
        """Return the bounds of what a lot of this product has of this stuff at first."""
        return _of_name(_of_name(self._contents, product), stuff)

    def limit(self, stuff):
        """Return the limit of this stuff."""
        return _of_name(self._limits, stuff)

    def declares(self, product, stuff):
        """Tell whether this product can have some of this stuff at first."""
        return self.content(product, stuff)[1] > 0

    def __eq__(self, other):
        return isinstance(other, Works) and self._text == other._text

    def __str__(self):
        return str(self._text)

    def __repr__(self):
        return f"Works of {len(self._machines)} machines and {len(self._products)} products"


def _of_name(table, name):
    """Return what the table has for this name; UnknownName for any value that it does not have."""
    # Not every value can be looked for in a dict.
    if not isinstance(name, str) or name not in table:
        raise UnknownName(name)
    return table[name]


def _by_stuff(stuffs, contents):
    """Return the contents under the names of their stuffs."""
    return {stuff[0]: content for stuff, content in zip(stuffs, contents)}


def _check(machines, cleanings, stuffs, products):
    """Raise the error of the first of these tuples that is not valid, if there is one."""
    wrong = _first_wrong(machines, (), 1, MOST_MACHINES, _has_shares)
    if wrong:
        raise InvalidMachines(wrong[0])
    wrong = _first_wrong(cleanings, machines, 0, MOST_CLEANINGS, _has_shares)
    if wrong:
        raise InvalidCleanings(wrong[0])
    wrong = _first_wrong(stuffs, machines + cleanings, 1, MOST_STUFFS, _has_limit)
    if wrong:
        raise InvalidStuffs(wrong[0])
    many = len(stuffs)
    wrong = _first_wrong(
        products, machines + cleanings + stuffs, 1, MOST_PRODUCTS, lambda row: _has_contents(row, many)
    )
    if wrong:
        raise InvalidProducts(wrong[0])


def _first_wrong(rows, earlier, fewest, most, is_right):
    """Return a tuple of the index of the first row that is not valid, or () if all are.

    The index is None for what is no tuple or has too few rows. The names of the earlier rows are taken.
    """
    if not isinstance(rows, tuple) or len(rows) < fewest:
        return (None,)
    taken = [row[0] for row in earlier]
    for at, row in enumerate(rows):
        if at == most or not is_right(row) or row[0] in taken:
            return (at,)
        taken.append(row[0])
    return ()


def _has_shares(row):
    """Tell whether this is a name with the bounds of a hold or a keep."""
    return _is_named(row, 3) and _are_bounds(row[1:], MOST_SHARE)


def _has_limit(row):
    """Tell whether this is a name with a limit."""
    return _is_named(row, 2) and is_integer(row[1]) and 0 <= row[1] <= MOST_AMOUNT


def _has_contents(row, many):
    """Tell whether this is a name with the contents of so many stuffs."""
    if not _is_named(row, 2) or not isinstance(row[1], tuple) or len(row[1]) != many:
        return False
    return all([_are_bounds(pair, MOST_AMOUNT) for pair in row[1]])


def _is_named(row, length):
    """Tell whether this is a tuple of this length that begins with a name."""
    return isinstance(row, tuple) and len(row) == length and is_name(row[0])


def _are_bounds(pair, most):
    """Tell whether this is a pair of integers from 0 to this one, the lower one first."""
    if not isinstance(pair, tuple) or len(pair) != 2:
        return False
    low, high = pair
    return is_integer(low) and is_integer(high) and 0 <= low <= high <= most


def _text_of(machines, cleanings, stuffs, products):
    """Return the text of works: a line for each row."""
    lines = [f"machine {name} {low} {high}" for name, low, high in machines]
    lines.extend([f"cleaning {name} {low} {high}" for name, low, high in cleanings])
    lines.extend([f"stuff {name} {most}" for name, most in stuffs])
    lines.extend([_product_line(name, contents) for name, contents in products])
    return "\n".join(lines)


def _product_line(name, contents):
    """Return the line of a product."""
    return f"product {name}" + "".join([f" {low}-{high}" for low, high in contents])


def _read_works(text):
    """Return works with the rows that these lines tell; an error under WrongValue if they are not valid."""
    rows = {"machine": [], "cleaning": [], "stuff": [], "product": []}
    for line in text.split("\n"):
        kind, *words = line.split(" ")
        if kind not in rows:
            raise InvalidText(text)
        rows[kind].append(_read_row(kind, words))
    return Works(tuple(rows["machine"]), tuple(rows["cleaning"]), tuple(rows["stuff"]), tuple(rows["product"]))


def _read_row(kind, words):
    """Return the row that these words tell, with None for each number that is none.

    Works refuse a row that is too short or too long, and one with None in it.
    """
    if kind == "product":
        return tuple(words[:1] + [tuple([_read_pair(word) for word in words[1:]])])
    return tuple(words[:1] + [read_number(word) for word in words[1:]])


def _read_pair(word):
    """Return the tuple of the numbers between hyphens, with None for each one that is none."""
    return tuple([read_number(part) for part in word.split("-")])
