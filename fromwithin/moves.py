"""Moves of one person into a room that is not empty (points 10 to 12)."""

from fromwithin.conventions import is_pair
from fromwithin.errors import EmptyRoom, HouseError, InvalidMoves, InvalidRoom, NotAdjacent, OtherRegion
from fromwithin.houses import is_room, neighbors, path_between
from fromwithin.placements import people_in, room_of, with_person_in
from fromwithin.regions import region_of


def move_person(house, placement, name, room):
    """Return the placement after a move. The name and the room may be any value.

    Raises UnknownPerson, InvalidRoom, NotAdjacent or EmptyRoom, the first that applies.
    """
    current = room_of(placement, name)
    if not is_room(house, room):
        raise InvalidRoom(room)
    if room not in neighbors(house, current):
        raise NotAdjacent(room)
    if not people_in(placement, room):
        raise EmptyRoom(room)
    return with_person_in(placement, name, room)


def legal_moves(house, placement):
    """Return all possible moves in ascending order."""
    found = []
    for name, current in placement:
        for room in neighbors(house, current):
            if people_in(placement, room):
                found.append((name, room))
    return tuple(found)


def apply_moves(house, placement, moves):
    """Return the placement after a sequence of moves, which may be any value.

    Raises InvalidMoves with None if it is not a tuple, and with the index of the first wrong move otherwise.
    """
    if not isinstance(moves, tuple):
        raise InvalidMoves(None)
    reached = placement
    for position, move in enumerate(moves):
        if not is_pair(move):
            raise InvalidMoves(position)
        name, room = move
        try:
            reached = move_person(house, reached, name, room)
        except HouseError:
            raise InvalidMoves(position) from None
    return reached


def reaches_target(house, placement, target, value):
    """Return whether any value is a sequence of moves that ends in the target."""
    try:
        return apply_moves(house, placement, value) == target
    except InvalidMoves:
        return False


def direct_moves(house, placement, name, room):
    """Return the moves of one person along the path to a room of their region; () for their own room.

    The name and the room may be any value. Raises UnknownPerson, InvalidRoom or OtherRegion, the first that applies.
    """
    current = room_of(placement, name)
    if not is_room(house, room):
        raise InvalidRoom(room)
    if room not in region_of(house, placement, current):
        raise OtherRegion(room)
    # There is only one path between two rooms, so it stays in their region and none of its rooms is empty.
    return tuple([(name, step) for step in path_between(house, current, room)[1:]])
