"""The console: a book by lines."""

from tracebounds.amounts import verdict
from tracebounds.basics import is_name, read_number
from tracebounds.books import Book
from tracebounds.errors import (
    Broken,
    InUse,
    InvalidClaim,
    InvalidIndex,
    InvalidLine,
    InvalidText,
    NotAPlan,
    NotARule,
    NothingToUndo,
    UnknownName,
)
from tracebounds.ever import first_above
from tracebounds.plans import Plan, check_plan
from tracebounds.rules import Rule

# What stands behind the first word of a line that has no text.
_FORMS = {
    "drop": ("name",),
    "undo": (),
    "most": ("name", "number", "name", "number"),
    "least": ("name", "number", "name", "number"),
    "keeps": ("name",),
    "ever": ("name", "name", "name", "number"),
    "lift": ("number",),
    "verdicts": ("name",),
    "above": ("name",),
    "names": (),
}
# The words of claims, where lines have other ones.
_CLAIMS = {"most": "at most", "least": "at least"}


class Console:
    """A book by lines."""

    def __init__(self, works):
        self._book = Book(works)

    def say(self, line):
        """Do what this line tells, and return the answer: the name of its class if an error comes out."""
        words = _read_line(line)
        if words is None:
            raise InvalidLine(line)
        try:
            return self._answer(*words)
        except InvalidText:
            return "InvalidText"
        except InvalidClaim:
            return "InvalidClaim"
        except InvalidIndex:
            return "InvalidIndex"
        except NotAPlan:
            return "NotAPlan"
        except NotARule:
            return "NotARule"
        except UnknownName:
            return "UnknownName"
        except Broken:
            return "Broken"
        except InUse:
            return "InUse"
        except NothingToUndo:
            return "NothingToUndo"

    def _answer(self, word, *told):
        """Return the answer to this word and what is told behind it."""
        if word == "names":
            return " ".join(self._book.names) or "none"
        if word == "verdicts":
            return _verdicts(self._book[told[0]])
        if word == "above":
            found = first_above(self._book[told[0]])
            return "none" if found is None else " ".join(found)
        self._change(word, *told)
        return "ok"

    def _change(self, word, *told):
        """Do to the book what this word tells."""
        if word == "plan":
            self._book[told[0]] = Plan.read(self._book.works, told[1])
        elif word == "rule":
            self._book[told[0]] = Rule.read(self._book.works, told[1])
        elif word == "drop":
            self._book.drop(told[0])
        elif word == "lift":
            self._book.lift(told[0])
        elif word == "undo":
            self._book.undo()
        else:
            self._book.claim((_CLAIMS.get(word, word), *told))

    def __eq__(self, other):
        return isinstance(other, Console) and self._book == other._book


def _verdicts(plan):
    """Return a line for each lot of this plan, its product and the verdicts on it."""
    check_plan(plan)
    stuffs = [name for name, _ in plan.works.stuffs]
    lines = [
        " ".join([product] + [verdict(plan, lot, stuff) for stuff in stuffs]) for lot, product in enumerate(plan.lots)
    ]
    return "\n".join(lines) or "none"


def _read_line(line):
    """Return the list of what this line tells, or None if a console does not know it."""
    if not isinstance(line, str):
        return None
    head, colon, text = line.partition(": ")
    if colon:
        return _read_head(head.split(" "), text)
    word, *rest = line.split(" ")
    if word not in _FORMS or len(rest) != len(_FORMS[word]):
        return None
    told = [word] + [_read_word(kind, part) for kind, part in zip(_FORMS[word], rest)]
    return None if None in told else told


def _read_head(words, text):
    """Return the list of what a line tells that has these words ahead of its text, or None."""
    if len(words) != 2 or words[0] not in ("plan", "rule") or not is_name(words[1]) or "\n" in text:
        return None
    return words + [text.replace(" / ", "\n")]


def _read_word(kind, word):
    """Return the name or the number that this word is, or None."""
    if kind == "number":
        return read_number(word)
    return word if is_name(word) else None
