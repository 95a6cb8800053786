"""What is refused, one class for each kind."""


class FlatError(ValueError):
    """Whatever the package refuses."""


class BadRoom(FlatError):
    """No prime to 31, or no count of places from 1 to 6."""


class BadRow(FlatError):
    """No row of the room, or no list of such rows."""


class BadFlat(FlatError):
    """No form of a flat of the room, or no list of such forms."""


class BadWidth(FlatError):
    """No width from 0 to the places."""


class BadCorners(FlatError):
    """No list of rising places."""


class BadNumber(FlatError):
    """No number that a flat of the width has."""


class BadTable(FlatError):
    """No table of the room."""


class BadChain(FlatError):
    """No chain of the room."""


class NotInside(FlatError):
    """A flat that does not lie inside the other one."""
