"""Placements: which person is in which room (points 7 and 8)."""

from fromwithin.bounds import MAX_PEOPLE
from fromwithin.conventions import is_ascending, is_name, is_pair
from fromwithin.errors import UnknownPerson
from fromwithin.houses import is_room


def is_placement(house, value):
    """Return whether any value is a placement of the house."""
    if not isinstance(value, tuple) or len(value) > MAX_PEOPLE:
        return False
    if not all([is_person_in_room(house, pair) for pair in value]):
        return False
    # Ascending names make the pairs ascending, and no name can stand there twice.
    return is_ascending(names_of(value))


def is_person_in_room(house, value):
    """Return whether any value is a pair (name, room) with a room of the house."""
    if not is_pair(value):
        return False
    name, room = value
    return is_name(name) and is_room(house, room)


def is_target(house, placement, value):
    """Return whether any value is a target for the placement."""
    return is_placement(house, value) and names_of(value) == names_of(placement)


def names_of(placement):
    """Return the names of all people in ascending order."""
    return tuple([name for name, room in placement])


def room_of(placement, name):
    """Return the person's room; raise UnknownPerson for any value that is no person's name."""
    # The value may be a list or a dict, so it is compared with the names and never used as a key.
    for person, room in placement:
        if person == name:
            return room
    raise UnknownPerson(name)


def with_person_in(placement, name, room):
    """Return the placement with this person in another room."""
    return tuple([(person, room if person == name else other) for person, other in placement])


def people_in(placement, room):
    """Return the names in a room in ascending order."""
    return people_within(placement, (room,))


def people_within(placement, rooms):
    """Return the names of the people in any of the rooms in ascending order."""
    return tuple([name for name, room in placement if room in rooms])


def room_counts(house, placement):
    """Return the number of people in each room."""
    return tuple([len(people_in(placement, room)) for room in range(house[0])])


def empty_rooms(house, placement):
    """Return the rooms without people in ascending order."""
    return tuple([room for room in range(house[0]) if not people_in(placement, room)])
