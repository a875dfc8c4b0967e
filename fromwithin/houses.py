"""Houses: rooms, doors, paths and components (points 4 to 6)."""

from fromwithin.bounds import MAX_ROOMS
from fromwithin.conventions import is_ascending, is_integer, is_pair


def is_house(value):
    """Return whether any value is a house."""
    if not is_pair(value):
        return False
    rooms, doors = value
    if not is_integer(rooms) or not 1 <= rooms <= MAX_ROOMS or not isinstance(doors, tuple):
        return False
    # Only doors between rooms can be compared with each other, and only those can be followed.
    if not all([is_door(rooms, door) for door in doors]):
        return False
    return is_ascending(doors) and not has_cycle(rooms, doors)


def is_room(house, value):
    """Return whether any value is a room number of the house."""
    return is_integer(value) and 0 <= value < house[0]


def is_door(rooms, value):
    """Return whether any value is a pair (a, b) of room numbers below rooms with a < b."""
    if not is_pair(value):
        return False
    a, b = value
    return is_integer(a) and is_integer(b) and 0 <= a < b < rooms


def has_cycle(rooms, doors):
    """Return whether some door joins two rooms that the doors before it already connect."""
    for at, (a, b) in enumerate(doors):
        if path_between((rooms, doors[:at]), a, b) is not None:
            return True
    return False


def neighbors(house, room):
    """Return the adjacent rooms in ascending order."""
    doors = house[1]
    # The doors are ascending, so both lists are, and only the first one holds lower rooms than this one.
    return tuple([a for a, b in doors if b == room] + [b for a, b in doors if a == room])


def path_between(house, a, b):
    """Return the rooms on the way from a to b with both ends, or None if there is no path."""
    steps = steps_toward(house, b, list(range(house[0])))
    if a not in steps:
        return None
    path = [a]
    while path[-1] != b:
        path.append(steps[path[-1]])
    return tuple(path)


def rooms_beyond(house, room, neighbor):
    """Return all rooms connected with neighbor by paths that avoid room, in ascending order."""
    others = [other for other in range(house[0]) if other != room]
    return tuple(sorted(steps_toward(house, neighbor, others)))


def components(house, rooms):
    """Return the components of an ascending tuple of rooms, ordered by their first rooms."""
    found = []
    for room in rooms:
        if not any([room in component for component in found]):
            found.append(tuple(sorted(steps_toward(house, room, rooms))))
    return tuple(found)


def steps_toward(house, goal, rooms):
    """Return a dict from each room connected with goal inside rooms to the next room on its way to goal.

    The goal itself has None as its next room.
    """
    steps = {goal: None}
    waiting = [goal]
    while waiting:
        room = waiting.pop()
        for other in neighbors(house, room):
            if other in rooms and other not in steps:
                steps[other] = room
                waiting.append(other)
    return steps
