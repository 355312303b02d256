"""The errors of the package (points 4 and 6)."""


class ShadeError(ValueError):
    """The base class of all errors of the package."""


class WrongKind(ShadeError):
    """The argument, or an item of it, is not of the told kind."""

    def __init__(self, argument):
        self.argument = argument


class WrongSize(ShadeError):
    """A row or a text has a wrong length, or a table or an Asked a wrong width."""

    def __init__(self, argument):
        self.argument = argument


class OutOfRange(ShadeError):
    """A value of the told kind and size is outside its told range."""

    def __init__(self, argument):
        self.argument = argument


class BadText(ShadeError):
    """A text is not accepted; the position tells where it is at fault."""

    def __init__(self, position):
        self.position = position


class NotATable(ShadeError):
    """The values belong to no table."""


class Spent(ShadeError):
    """As many words as allowed have been asked."""

    def __init__(self, allowed):
        self.allowed = allowed


class TooFewPlaces(ShadeError):
    """More places count than were allowed."""

    def __init__(self, places_found):
        # Python keeps what an error is made with; this message takes the place of the caller's list.
        super().__init__("more places count than were allowed")
        self.places_found = list(places_found)


class WrongPaper(ShadeError):
    """A paper is not right."""

    def __init__(self, paper_of):
        self.paper_of = paper_of


class UnknownName(ShadeError):
    """A name has no table."""

    def __init__(self, missing):
        self.missing = missing


class NameTaken(ShadeError):
    """A name has a table already."""

    def __init__(self, taken):
        self.taken = taken


class NothingToUndo(ShadeError):
    """There is nothing that could be undone."""


class BookFull(ShadeError):
    """The book has as many rows as it may have."""
