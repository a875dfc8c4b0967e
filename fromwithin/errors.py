"""The errors of the package: HouseError and its direct subclasses.

Each class only stores its fields. Python keeps the arguments of an error for its message by itself.
"""


class HouseError(ValueError):
    """The base class of all errors of the package."""


class UnknownPerson(HouseError):
    """No person has this name."""

    def __init__(self, name):
        self.name = name


class InvalidRoom(HouseError):
    """The value is not a room number of the house."""

    def __init__(self, room):
        self.room = room


class NotAdjacent(HouseError):
    """The room is not adjacent to the other one."""

    def __init__(self, room):
        self.room = room


class EmptyRoom(HouseError):
    """Nobody is in the room."""

    def __init__(self, room):
        self.room = room


class InvalidMoves(HouseError):
    """The value is not a sequence of moves; the position is None if it is not a tuple."""

    def __init__(self, position):
        self.position = position


class OtherRegion(HouseError):
    """The room is empty or in another region."""

    def __init__(self, room):
        self.room = room


class TightRegion(HouseError):
    """The region that begins with this room is tight."""

    def __init__(self, room):
        self.room = room


class Blocked(HouseError):
    """There is a block, so the target is not reachable."""

    def __init__(self, block):
        self.block = block


class InvalidName(HouseError):
    """The value is not a name."""

    def __init__(self, name):
        self.name = name


class DuplicateName(HouseError):
    """A person has this name already."""

    def __init__(self, name):
        self.name = name


class LimitReached(HouseError):
    """There are already as many people or rooms as the limit allows."""

    def __init__(self, limit):
        self.limit = limit


class AlreadyAdjacent(HouseError):
    """The room is the other one or is adjacent to it already."""

    def __init__(self, room):
        self.room = room


class WouldFormCycle(HouseError):
    """There is already a path to the room."""

    def __init__(self, room):
        self.room = room


class NothingToUndo(HouseError):
    """No action is in effect."""

    def __init__(self):
        pass


class HistoryFull(HouseError):
    """As many actions are in effect as a session allows."""

    def __init__(self):
        pass


class SessionBusy(HouseError):
    """The session is running a batch."""

    def __init__(self):
        pass


class InvalidActions(HouseError):
    """The value is not a batch of actions."""

    def __init__(self):
        pass


class BatchFailed(HouseError):
    """The action at this position of the batch failed."""

    def __init__(self, position):
        self.position = position


class InvalidMoment(HouseError):
    """The value is not a moment of the session."""

    def __init__(self, position):
        self.position = position


class InvalidHouse(HouseError):
    """The value is not a house."""

    def __init__(self):
        pass


class InvalidPlacement(HouseError):
    """The value is not a placement of the house."""

    def __init__(self):
        pass


class InvalidText(HouseError):
    """The text is invalid from this line on; the position is None if it is not a string."""

    def __init__(self, position):
        self.position = position
