"""Sessions for the tests: what the document says of each action, without the package, and snapshots of sessions."""

import re

from support import OTHER_VALUES, SupportCase, are_adjacent, connected, place

HOUSE = (4, ((0, 1), (1, 2)))
PLACEMENT = place([0, 1, 1, 2])
EXCHANGE = (2, ((0, 1),))

# Values for arguments: rooms, names and others, each in place of each argument.
ARGUMENTS = (0, 1, 2, 3, 4, "ann", "ben", "cid", "eve", "zed", "abcdefgh", "abcdefghi", "max", *OTHER_VALUES)

ARGUMENT_COUNTS = {
    "move": 2, "enter": 2, "leave": 1, "set_target": 2, "add_door": 2, "remove_door": 2, "add_room": 1,
}


def start_of(house, placement):
    return (house, placement, placement)


def own_is_room(house, value):
    return type(value) is int and 0 <= value < house[0]


def own_enter(state, name, room):
    house, placement, target = state
    if not isinstance(name, str) or not re.fullmatch("[a-z]{1,8}", name):
        return ("InvalidName", name)
    if name in dict(placement):
        return ("DuplicateName", name)
    if not own_is_room(house, room):
        return ("InvalidRoom", room)
    if room not in dict(placement).values():
        return ("EmptyRoom", room)
    if len(placement) >= 12:
        return ("LimitReached", 12)
    return (house, tuple(sorted(placement + ((name, room),))), tuple(sorted(target + ((name, room),))))


def own_move(state, name, room):
    house, placement, target = state
    if not own_is_room(house, room):
        return ("InvalidRoom", room)
    if not are_adjacent(house, dict(placement)[name], room):
        return ("NotAdjacent", room)
    if room not in dict(placement).values():
        return ("EmptyRoom", room)
    return (house, put(placement, name, room), target)


def put(placement, name, room):
    return tuple(sorted({**dict(placement), name: room}.items()))


def own_person_action(state, word, name, *more):
    """The actions of a person who must be there."""
    house, placement, target = state
    if not isinstance(name, str) or name not in dict(placement):
        return ("UnknownPerson", name)
    if word == "move":
        return own_move(state, name, *more)
    if word == "leave":
        left = [tuple(pair for pair in pairs if pair[0] != name) for pairs in (placement, target)]
        return (house, *left)
    if word == "set_target":
        if not own_is_room(house, more[0]):
            return ("InvalidRoom", more[0])
        return (house, placement, put(target, name, more[0]))
    if house[0] >= 8:
        return ("LimitReached", 8)
    doors = tuple(sorted(house[1] + ((dict(placement)[name], house[0]),)))
    return ((house[0] + 1, doors), put(placement, name, house[0]), target)


def own_door_action(state, word, a, b):
    house, placement, target = state
    if not own_is_room(house, a):
        return ("InvalidRoom", a)
    if word == "remove_door":
        if type(b) is not int or not are_adjacent(house, a, b):
            return ("NotAdjacent", b)
        doors = set(house[1]) - {(min(a, b), max(a, b))}
        return ((house[0], tuple(sorted(doors))), placement, target)
    if not own_is_room(house, b):
        return ("InvalidRoom", b)
    if a == b or are_adjacent(house, a, b):
        return ("AlreadyAdjacent", b)
    if connected(house[1], a, b):
        return ("WouldFormCycle", b)
    return ((house[0], tuple(sorted(house[1] + ((min(a, b), max(a, b)),)))), placement, target)


def own_act(state, action):
    """The state after an action, or the class name and the field of the error that the document names."""
    word, *arguments = action
    if word == "enter":
        return own_enter(state, *arguments)
    if word in ("add_door", "remove_door"):
        return own_door_action(state, word, *arguments)
    return own_person_action(state, word, *arguments)


def is_error(outcome):
    return len(outcome) == 2


def call(session, action):
    """Call the method of the action."""
    word, *arguments = action
    return getattr(session, word)(*arguments)


def state_of(session, **moment):
    return (session.house(**moment), session.placement(**moment), session.targets(**moment))


def snapshot(session, with_log=True):
    """All that a session tells, at every moment."""
    moments = [state_of(session, moment=moment) for moment in range(len(session) + 1)]
    blocks = [session.blocked_by(moment=moment) for moment in range(len(session) + 1)]
    told = (state_of(session), moments, blocks, session.actions(), len(session), str(session))
    return repr((told, session.log() if with_log else None))


class SessionCase(SupportCase):
    def assert_refused(self, session, error_name, field, function, *arguments, **more):
        """The call raises just this error twice, with the very field, and nothing changes."""
        before = snapshot(session)
        for time in ("first call", "second call"):
            with self.assertRaises(ValueError, msg=(time, arguments)) as context:
                function(*arguments, **more)
            error = context.exception
            self.assertEqual(type(error).__name__, error_name, arguments)
            self.assertEqual([repr(held) for held in vars(error).values()], [repr(value) for value in field])
            if field and isinstance(field[0], (list, dict)):
                self.assertIs(list(vars(error).values())[0], field[0])
            self.assertEqual(snapshot(session), before, arguments)

    def check_action(self, session, action):
        """The action does what the document says, and is undone again."""
        before, expected = snapshot(session), own_act(state_of(session), action)
        if is_error(expected):
            self.assert_refused(session, expected[0], expected[1:], call, session, action)
            return
        done = session.actions()
        self.assertIsNone(call(session, action))
        self.assert_same(state_of(session), expected, action)
        self.assert_same(session.actions(), done + (action,))
        self.assertEqual(len(session), len(done) + 1)
        self.assertIsNone(session.undo())
        self.assertEqual(snapshot(session), before, action)
