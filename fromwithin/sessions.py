"""Sessions: actions with undo, batches, moments and copies (points 31 to 34)."""

from fromwithin.actions import is_batch, state_after
from fromwithin.blocks import find_block, refuse_block
from fromwithin.bounds import MAX_ACTIONS
from fromwithin.conventions import is_integer
from fromwithin.errors import BatchFailed, HistoryFull, HouseError, InvalidActions, InvalidHouse, InvalidMoment
from fromwithin.errors import InvalidPlacement, NothingToUndo, SessionBusy
from fromwithin.houses import is_house
from fromwithin.placements import is_placement

LOG_ROWS = 10


class Session:
    """A house, a placement and a target that actions change.

    It keeps the states at all moments, the actions in effect and the rows of the log as tuples, which copies share.
    """

    GUARDED = False

    def __init__(self, house, placement):
        if not is_house(house):
            raise InvalidHouse()
        if not is_placement(house, placement):
            raise InvalidPlacement()
        self.states = ((house, placement, placement),)
        self.done = ()
        self.rows = ()
        self.busy = False

    def move(self, name, room):
        """An action: a person moves; raise UnknownPerson, InvalidRoom, NotAdjacent or EmptyRoom."""
        self.act(("move", name, room))

    def enter(self, name, room):
        """An action: a person enters; raise InvalidName, DuplicateName, InvalidRoom, EmptyRoom or LimitReached."""
        self.act(("enter", name, room))

    def leave(self, name):
        """An action: a person is removed; raise UnknownPerson."""
        self.act(("leave", name))

    def set_target(self, name, room):
        """An action: a person's target room changes; raise UnknownPerson or InvalidRoom."""
        self.act(("set_target", name, room))

    def add_door(self, a, b):
        """An action: there is one more door; raise InvalidRoom, AlreadyAdjacent or WouldFormCycle."""
        self.act(("add_door", a, b))

    def remove_door(self, a, b):
        """An action: there is one door less; raise InvalidRoom or NotAdjacent."""
        self.act(("remove_door", a, b))

    def add_room(self, name):
        """An action: a person goes into a new room beside their own one; raise UnknownPerson or LimitReached."""
        self.act(("add_room", name))

    def act(self, action):
        """Apply an action; raise SessionBusy, HistoryFull or the error of the action, the first that applies."""
        self.refuse_if_busy()
        self.apply_action(action)

    def refuse_if_busy(self):
        """Raise SessionBusy during a call of on_action."""
        if self.busy:
            raise SessionBusy()

    def apply_action(self, action):
        """Apply an action, also within a batch."""
        if len(self.done) >= MAX_ACTIONS:
            raise HistoryFull()
        house, placement, target = state_after(self.states[-1], action)
        if self.GUARDED:
            refuse_block(house, placement, target)
        self.states += ((house, placement, target),)
        self.done += (action,)

    def undo(self):
        """Revert the last action in effect; raise NothingToUndo if there is none."""
        self.refuse_if_busy()
        if not self.done:
            raise NothingToUndo()
        self.states = self.states[:-1]
        self.done = self.done[:-1]

    def run_batch(self, actions, *, on_action=None):
        """Apply all actions in order, or none, and call on_action with the session after each one.

        Raises InvalidActions for any value that is not a batch, and BatchFailed, chained from the error of an action.
        """
        self.refuse_if_busy()
        if not is_batch(actions):
            raise InvalidActions()
        self.rows = self.log() + (("begin", len(actions)),)
        states, done = self.states, self.done
        end = ("end", 0)
        try:
            for position, action in enumerate(actions):
                self.apply_in_batch(position, action)
                self.call_back(on_action)
            states, done = self.states, self.done
            end = ("end", len(actions))
        finally:
            # What was there before the batch, unless all of it has been applied.
            self.states, self.done = states, done
            self.rows = self.rows + (end,)

    def apply_in_batch(self, position, action):
        """Apply the action with that index of a batch."""
        try:
            self.apply_action(action)
        except HouseError as error:
            raise BatchFailed(position) from error

    def call_back(self, on_action):
        """Call on_action, if it is given, while the session is busy."""
        if on_action is None:
            return
        self.busy = True
        try:
            on_action(self)
        finally:
            self.busy = False

    def log(self):
        """Return the last rows ("begin", number of actions) and ("end", number of these in effect) of batches."""
        return self.rows[-LOG_ROWS:]

    def house(self, *, moment=None):
        """Return the house at a moment; raise InvalidMoment."""
        return self.state_at(moment)[0]

    def placement(self, *, moment=None):
        """Return the placement at a moment; raise InvalidMoment."""
        return self.state_at(moment)[1]

    def targets(self, *, moment=None):
        """Return the target at a moment; raise InvalidMoment."""
        return self.state_at(moment)[2]

    def state_at(self, moment):
        """Return the state after that many actions, or now for None; raise InvalidMoment for any other value."""
        if moment is None:
            return self.states[-1]
        if not is_integer(moment) or not 0 <= moment < len(self.states):
            raise InvalidMoment(moment)
        return self.states[moment]

    def actions(self):
        """Return the actions in effect as tuples of the name of the action and its arguments as they were passed."""
        return self.done

    def blocked_by(self, *, moment=None):
        """Return a block at a moment or None; raise InvalidMoment."""
        house, placement, target = self.state_at(moment)
        return find_block(house, placement, target)

    def copy(self):
        """Return another session with the same actions and the same log."""
        house, placement, target = self.states[0]
        other = Session(house, placement)
        other.continue_from(self)
        return other

    def continue_from(self, other):
        """Take over what has happened in another session. It may be busy, but this one is not."""
        self.states, self.done, self.rows = other.states, other.done, other.rows

    def __len__(self):
        return len(self.done)

    def __eq__(self, other):
        return isinstance(other, Session) and self.GUARDED == other.GUARDED and self.states[-1] == other.states[-1]

    def __str__(self):
        return f"{house_size(self.house())}, {len(self.placement())} people, {len(self.done)} actions"


def house_size(house):
    """Return the numbers of rooms and doors as text."""
    rooms, doors = house
    return f"{rooms} rooms, {len(doors)} doors"


class GuardedSession(Session):
    """A session that keeps its target reachable: as its last error, each action raises Blocked.

    What a session promises is the same here, and each of its methods stands in this class itself, too.
    """

    GUARDED = True

    def __init__(self, house, placement):
        Session.__init__(self, house, placement)

    def move(self, name, room):
        """An action: a person moves."""
        super().move(name, room)

    def enter(self, name, room):
        """An action: a person enters."""
        super().enter(name, room)

    def leave(self, name):
        """An action: a person is removed."""
        super().leave(name)

    def set_target(self, name, room):
        """An action: a person's target room changes."""
        super().set_target(name, room)

    def add_door(self, a, b):
        """An action: there is one more door."""
        super().add_door(a, b)

    def remove_door(self, a, b):
        """An action: there is one door less."""
        super().remove_door(a, b)

    def add_room(self, name):
        """An action: a person goes into a new room beside their own one."""
        super().add_room(name)

    def undo(self):
        """Revert the last action in effect."""
        super().undo()

    def run_batch(self, actions, *, on_action=None):
        """Apply all actions in order, or none."""
        super().run_batch(actions, on_action=on_action)

    def log(self):
        """Return the last rows of the log."""
        return super().log()

    def house(self, *, moment=None):
        """Return the house at a moment."""
        return super().house(moment=moment)

    def placement(self, *, moment=None):
        """Return the placement at a moment."""
        return super().placement(moment=moment)

    def targets(self, *, moment=None):
        """Return the target at a moment."""
        return super().targets(moment=moment)

    def actions(self):
        """Return the actions in effect."""
        return super().actions()

    def blocked_by(self, *, moment=None):
        """Return a block at a moment or None. No state of a guarded session has a block."""
        return super().blocked_by(moment=moment)

    def copy(self):
        """Return another guarded session with the same actions and the same log."""
        house, placement, target = self.states[0]
        other = GuardedSession(house, placement)
        other.continue_from(self)
        return other
