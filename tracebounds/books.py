"""Books: plans and rules under names, and claims that hold after each change."""

from tracebounds.basics import is_index, is_name
from tracebounds.checks import check_works
from tracebounds.claims import first_broken, holds, is_claim
from tracebounds.errors import (
    Broken,
    InUse,
    InvalidClaim,
    InvalidDeeds,
    InvalidIndex,
    InvalidName,
    NotAPart,
    NothingToUndo,
    UnknownName,
)
from tracebounds.plans import Plan
from tracebounds.rules import Rule

# The words of deeds, with the lengths of their tuples.
_LENGTHS = {"put": 3, "drop": 2, "claim": 2, "lift": 2}


class Book:
    """Plans and rules of works under names, and claims in an order."""

    def __init__(self, works):
        check_works(works)
        self._works = works
        self._mark = Mark()
        self._page = Page({}, (), None)

    @property
    def works(self):
        """The works."""
        return self._works

    @property
    def names(self):
        """The ascending tuple of the names."""
        return tuple(sorted(list(self._page.parts)))

    @property
    def claims(self):
        """The tuple of the claims, in their order."""
        return self._page.said

    @property
    def changes(self):
        """How many changes can be taken back."""
        return self._page.number

    def drop(self, name):
        """Take this name away; InUse if a claim names it."""
        if name not in self:
            raise UnknownName(name)
        page = self._page
        for at, claim in enumerate(page.said):
            if claim[1] == name:
                raise InUse(at)
        self._page = Page({other: page.parts[other] for other in page.parts if other != name}, page.said, page)

    def claim(self, claim):
        """Add this claim behind the others; Broken if it does not hold."""
        if not is_claim(claim):
            raise InvalidClaim(claim)
        page = self._page
        if not holds(page.parts, claim):
            raise Broken(len(page.said))
        self._page = Page(page.parts, page.said + (claim,), page)

    def lift(self, index):
        """Take the claim with this index away."""
        page = self._page
        if not is_index(index, len(page.said)):
            raise InvalidIndex(index)
        self._page = Page(page.parts, page.said[:index] + page.said[index + 1:], page)

    def undo(self):
        """Take back the last change that has not been taken back."""
        if self._page.earlier is None:
            raise NothingToUndo()
        self._page = self._page.earlier

    def do_all(self, *deeds, watch=None):
        """Do all of these deeds, or none of them, and return their number; watch(book) is called behind each one."""
        _check_deeds(deeds)
        page = self._page
        many = None
        try:
            for deed in deeds:
                self._do(deed)
                if watch is not None:
                    watch(self)
            many = len(deeds)
        finally:
            # Whatever the error is: also one of watch, of which nothing is known.
            if many is None:
                self._page = page
        return many

    def trial(self):
        """Return what a with statement takes: when its rows end, the book is as it was when they began."""
        return Trial(self)

    def tried(self, action):
        """Return action(book); behind it the book is as it was."""
        with self.trial() as book:
            return action(book)

    def _do(self, deed):
        """Do this deed."""
        word, first, *rest = deed
        if word == "put":
            self[first] = rest[0]
        elif word == "drop":
            self.drop(first)
        elif word == "claim":
            self.claim(first)
        else:
            self.lift(first)

    def __setitem__(self, name, part):
        if not is_name(name):
            raise InvalidName(name)
        if not isinstance(part, (Plan, Rule)) or part.works != self._works:
            raise NotAPart(part)
        page = self._page
        parts = {**page.parts, name: part}
        broken = first_broken(parts, page.said, name)
        if broken is not None:
            raise Broken(broken)
        self._page = Page(parts, page.said, page)

    def __getitem__(self, name):
        if name not in self:
            raise UnknownName(name)
        return self._page.parts[name]

    def __contains__(self, value):
        # Not every value can be looked for in a dict.
        return isinstance(value, str) and value in self._page.parts

    def __len__(self):
        return len(self._page.parts)

    def __iter__(self):
        # Without this Python would ask for the items 0, 1, 2 ..
        raise TypeError("a book is not gone through: ask for its names")

    def __eq__(self, other):
        return isinstance(other, Book) and self._mark == other._mark


class Trial:
    """What a with statement takes for rows after which a book is as it was; it may be entered several times."""

    def __init__(self, book):
        self._book = book
        self._mark = Mark()
        # Of the innermost rows that have not ended.
        self._entry = None

    def __enter__(self):
        self._entry = Entry(self._book._page, self._entry)
        return self._book

    # Entries are chained, not listed: where rows end, attributes may only be handed on.
    def __exit__(self, kind, value, trace):
        book = self._book
        book._page = self._entry.page
        self._entry = self._entry.around

    def __eq__(self, other):
        return isinstance(other, Trial) and self._mark == other._mark


class Entry:
    """The page with which rows of a trial began, and the entry of those of its rows that stand around them."""

    def __init__(self, page, around):
        self.page = page
        self.around = around


class Page:
    """What a book holds at one time: never changed, so that all earlier pages stay as they were."""

    def __init__(self, parts, said, earlier):
        self.parts = parts
        self.said = said
        # The page that it is taken back to, None for the first one.
        self.earlier = earlier
        self.number = 0 if earlier is None else earlier.number + 1


class Mark:
    """Equals itself alone: with it, what has it equals itself alone, whatever it is compared with."""


def _check_deeds(deeds):
    """Raise InvalidDeeds with the first of these that is no deed."""
    for at, deed in enumerate(deeds):
        if not isinstance(deed, tuple) or not deed or not isinstance(deed[0], str):
            raise InvalidDeeds(at)
        if deed[0] not in _LENGTHS or len(deed) != _LENGTHS[deed[0]]:
            raise InvalidDeeds(at)
