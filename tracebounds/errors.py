"""The errors of Tracebounds: what was passed, or the index of the first element that is not valid."""


class WrongValue(ValueError):
    """A value that is not valid."""


class InvalidText(WrongValue):
    """The text of nothing that can be read."""

    def __init__(self, given):
        self.given = given


class InvalidLot(WrongValue):
    """No number of a lot of the plan, or not one that is asked for."""

    def __init__(self, given):
        self.given = given


class InvalidBound(WrongValue):
    """No number that can bound an amount."""

    def __init__(self, given):
        self.given = given


class InvalidName(WrongValue):
    """No name."""

    def __init__(self, given):
        self.given = given


class InvalidClaim(WrongValue):
    """No claim of one of the forms of a book."""

    def __init__(self, given):
        self.given = given


class InvalidIndex(WrongValue):
    """No index of what is there."""

    def __init__(self, given):
        self.given = given


class InvalidOther(WrongValue):
    """A rule of other products, or one that lets other pairs."""

    def __init__(self, given):
        self.given = given


class InvalidLine(WrongValue):
    """No line that a console knows."""

    def __init__(self, given):
        self.given = given


class NotWorks(WrongValue):
    """No Works."""

    def __init__(self, given):
        self.given = given


class NotAPlan(WrongValue):
    """No Plan."""

    def __init__(self, given):
        self.given = given


class NotARule(WrongValue):
    """No Rule."""

    def __init__(self, given):
        self.given = given


class NotAPart(WrongValue):
    """No plan or rule of the works of the book."""

    def __init__(self, given):
        self.given = given


class InvalidMachines(WrongValue):
    """An element that is not valid among machines."""

    def __init__(self, index):
        self.index = index


class InvalidCleanings(WrongValue):
    """An element that is not valid among cleanings."""

    def __init__(self, index):
        self.index = index


class InvalidStuffs(WrongValue):
    """An element that is not valid among stuffs."""

    def __init__(self, index):
        self.index = index


class InvalidProducts(WrongValue):
    """An element that is not valid among products."""

    def __init__(self, index):
        self.index = index


class InvalidDeeds(WrongValue):
    """An element that is not valid among deeds."""

    def __init__(self, index):
        self.index = index


class InvalidTable(WrongValue):
    """An element that is not valid in the table of a rule."""

    def __init__(self, index):
        self.index = index


class InvalidRow(WrongValue):
    """An element that is not valid in a row of lots."""

    def __init__(self, index):
        self.index = index


class InvalidChanges(WrongValue):
    """An element that is not valid among changes."""

    def __init__(self, index):
        self.index = index


class InvalidOrdered(WrongValue):
    """An element that is not valid among ordered products."""

    def __init__(self, index):
        self.index = index


class WrongName(LookupError):
    """A name of nothing that is there."""


class UnknownName(WrongName):
    """A value that is no name of the kind that is asked for."""

    def __init__(self, given):
        self.given = given


class NoAnswer(ArithmeticError):
    """A call that cannot be done as things are."""


class Broken(NoAnswer):
    """A change with which a claim would not hold."""

    def __init__(self, index):
        self.index = index


class InUse(NoAnswer):
    """A name that a claim names."""

    def __init__(self, index):
        self.index = index


class NothingToUndo(NoAnswer):
    """No change is left that can be taken back."""

    def __init__(self):
        pass
