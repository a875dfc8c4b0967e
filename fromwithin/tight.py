"""Tight regions: who is outside, who passes a room, and which pieces are solvable (points 13 to 16)."""

from fromwithin.houses import components, path_between
from fromwithin.placements import names_of, people_in, people_within, room_of
from fromwithin.regions import find_regions


def people_outside(house, placement, target):
    """Return the names of the people whose target room is not in their region, in ascending order."""
    found = []
    for region in find_regions(house, placement):
        found.extend(people_leaving(placement, target, region))
    return tuple(sorted(found))


def people_leaving(placement, target, region):
    """Return the names of the people in a region whose target room is not in it, in ascending order."""
    return tuple([name for name in people_within(placement, region) if room_of(target, name) not in region])


def people_passing(house, placement, target, room):
    """Return the names of all people who pass the room, in ascending order."""
    return tuple([name for name in names_of(placement) if room in passed_rooms(house, placement, target, name)])


def passed_rooms(house, placement, target, name):
    """Return the rooms that a person passes, in the order of the path; () if there is no path."""
    path = path_to_target(house, placement, target, name)
    return () if path is None else path[1:-1]


def path_to_target(house, placement, target, name):
    """Return the path from a person's room to their target room, or None; raise UnknownPerson as room_of does."""
    return path_between(house, room_of(placement, name), room_of(target, name))


def next_toward_target(house, placement, target, name):
    """Return the next room on the path to the person's target room, which may be through empty rooms.

    Returns None if they are there or have no path. Raises UnknownPerson for any value that is no person's name.
    """
    path = path_to_target(house, placement, target, name)
    if path is None or len(path) == 1:
        return None
    return path[1]


def free_rooms(house, placement, target, region):
    """Return the free rooms of a tight region, or of a piece and its people alone, in ascending order."""
    needed = []
    for name in people_within(placement, region):
        needed.append(room_of(target, name))
        needed.extend(passed_rooms(house, placement, target, name))
    return tuple([room for room in region if room not in needed])


def is_solvable(house, placement, target, rooms):
    """Return whether a piece, given as an ascending tuple of rooms, is solvable."""
    if all_at_target(placement, target, rooms):
        return True
    for room in free_rooms(house, placement, target, rooms):
        if is_solvable_without(house, placement, target, rooms, room):
            return True
    return False


def all_at_target(placement, target, rooms):
    """Return whether everybody in these rooms is in their target room."""
    return all([room_of(target, name) == room_of(placement, name) for name in people_within(placement, rooms)])


def is_solvable_without(house, placement, target, rooms, room):
    """Return whether a piece stays solvable when the person in one of its free rooms leaves it for their target."""
    ahead = room_ahead(house, placement, target, room)
    for component in components_without(house, rooms, room):
        # The component that the person enters becomes loose, so every target inside it can be reached.
        if ahead not in component and not is_solvable(house, placement, target, component):
            return False
    return True


def room_ahead(house, placement, target, room):
    """Return the next room toward the target of the one person in a room; None if they are there."""
    return next_toward_target(house, placement, target, people_in(placement, room)[0])


def components_without(house, rooms, room):
    """Return the components of an ascending tuple of rooms that remain without one of them."""
    return components(house, tuple([other for other in rooms if other != room]))


def rooms_to_leave_first(house, placement, target, rooms):
    """Return the free rooms of a piece that stays solvable when one of them is emptied first, in ascending order."""
    free = free_rooms(house, placement, target, rooms)
    return tuple([room for room in free if is_solvable_without(house, placement, target, rooms, room)])
