"""The actions of a session, each as a function from one state to the next one (point 31).

A state is a triple (house, placement, target). The arguments of actions may be any value.
"""

from fromwithin.bounds import MAX_BATCH, MAX_PEOPLE, MAX_ROOMS
from fromwithin.conventions import is_integer, is_name
from fromwithin.errors import AlreadyAdjacent, DuplicateName, EmptyRoom, InvalidName, InvalidRoom, LimitReached
from fromwithin.errors import NotAdjacent, WouldFormCycle
from fromwithin.houses import is_room, neighbors, path_between
from fromwithin.moves import move_person
from fromwithin.placements import names_of, people_in, room_of, with_person_in


def after_move(state, name, room):
    """A person moves; raise UnknownPerson, InvalidRoom, NotAdjacent or EmptyRoom, the first that applies."""
    house, placement, target = state
    return (house, move_person(house, placement, name, room), target)


def after_enter(state, name, room):
    """A new person enters a room, which is also their target room.

    Raises InvalidName, DuplicateName, InvalidRoom, EmptyRoom or LimitReached, the first that applies.
    """
    house, placement, target = state
    if not is_name(name):
        raise InvalidName(name)
    if name in names_of(placement):
        raise DuplicateName(name)
    refuse_no_room(house, room)
    if not people_in(placement, room):
        raise EmptyRoom(room)
    if len(placement) >= MAX_PEOPLE:
        raise LimitReached(MAX_PEOPLE)
    return (house, with_more(placement, (name, room)), with_more(target, (name, room)))


def refuse_no_room(house, room):
    """Raise InvalidRoom for any value that is not a room number of the house."""
    if not is_room(house, room):
        raise InvalidRoom(room)


def with_more(pairs, pair):
    """Return an ascending tuple of pairs with one more pair in its place."""
    return tuple(sorted([*pairs, pair]))


def after_leave(state, name):
    """A person is removed; raise UnknownPerson if there is none of this name."""
    house, placement, target = state
    pair = (name, room_of(placement, name))
    wanted = (name, room_of(target, name))
    return (house, without(placement, pair), without(target, wanted))


def without(pairs, pair):
    """Return a tuple of pairs without one of them."""
    return tuple([other for other in pairs if other != pair])


def after_set_target(state, name, room):
    """A person's target room changes; raise UnknownPerson or InvalidRoom, the first that applies."""
    house, placement, target = state
    room_of(placement, name)
    refuse_no_room(house, room)
    return (house, placement, with_person_in(target, name, room))


def after_add_door(state, a, b):
    """There is one more door; raise InvalidRoom, AlreadyAdjacent or WouldFormCycle, the first that applies."""
    house, placement, target = state
    refuse_no_room(house, a)
    refuse_no_room(house, b)
    if a == b or b in neighbors(house, a):
        raise AlreadyAdjacent(b)
    if path_between(house, a, b) is not None:
        raise WouldFormCycle(b)
    rooms, doors = house
    return ((rooms, with_more(doors, door_between(a, b))), placement, target)


def door_between(a, b):
    """Return the door between two rooms."""
    return (min(a, b), max(a, b))


def after_remove_door(state, a, b):
    """There is one door less; raise InvalidRoom or NotAdjacent, the first that applies."""
    house, placement, target = state
    refuse_no_room(house, a)
    if not is_integer(b) or b not in neighbors(house, a):
        raise NotAdjacent(b)
    rooms, doors = house
    return ((rooms, without(doors, door_between(a, b))), placement, target)


def after_add_room(state, name):
    """A person makes a new room beside their own one and goes there.

    Raises UnknownPerson or LimitReached, the first that applies.
    """
    house, placement, target = state
    rooms, doors = house
    here = room_of(placement, name)
    if rooms >= MAX_ROOMS:
        raise LimitReached(MAX_ROOMS)
    return ((rooms + 1, with_more(doors, (here, rooms))), with_person_in(placement, name, rooms), target)


# For each action its function and the number of its arguments.
CHANGES = {
    "move": (after_move, 2),
    "enter": (after_enter, 2),
    "leave": (after_leave, 1),
    "set_target": (after_set_target, 2),
    "add_door": (after_add_door, 2),
    "remove_door": (after_remove_door, 2),
    "add_room": (after_add_room, 1),
}


def state_after(state, action):
    """Return the state after an action, a tuple of its name and its arguments; raise the error of the action."""
    word, *arguments = action
    change = CHANGES[word][0]
    return change(state, *arguments)


def is_batch(value):
    """Return whether any value is a tuple of not too many actions."""
    return isinstance(value, tuple) and len(value) <= MAX_BATCH and all([is_action(part) for part in value])


def is_action(value):
    """Return whether any value is a tuple of the name of an action and as many arguments as it takes."""
    if not isinstance(value, tuple) or not value or not isinstance(value[0], str):
        return False
    return value[0] in CHANGES and len(value) == 1 + CHANGES[value[0]][1]
