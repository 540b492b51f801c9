"""Works and names where a call asks for them, and the errors of all other values."""

from tracebounds.errors import NotWorks, UnknownName
from tracebounds.works import Works


def check_works(works):
    """Raise NotWorks if this is no Works."""
    if not isinstance(works, Works):
        raise NotWorks(works)


def is_name_of(rows, value):
    """Tell whether this is the name of one of these rows of works."""
    # A value that is no string may equal one all the same.
    return isinstance(value, str) and value in [row[0] for row in rows]


def check_name(rows, value):
    """Raise UnknownName if this is not the name of one of these rows of works."""
    if not is_name_of(rows, value):
        raise UnknownName(value)
