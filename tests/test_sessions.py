"""Sessions: actions, undo, moments, copies and operators, checked against the words of the document."""

import inspect
import itertools
import random
import unittest

from fromwithin import sessions
from fromwithin.blocks import find_block
from fromwithin.houses import is_house
from fromwithin.placements import is_placement, is_target
from fromwithin.sessions import GuardedSession, Session
from session_support import ARGUMENTS, ARGUMENT_COUNTS, EXCHANGE, HOUSE, PLACEMENT, SessionCase
from session_support import call, is_error, own_act, snapshot, start_of, state_of
from support import CASES, LARGE_CASES, LARGE_HOUSES, NAMES, OTHER_VALUES, SMALL_CASES, place

METHODS = {
    "__init__": "(self, house, placement)", "move": "(self, name, room)", "enter": "(self, name, room)",
    "leave": "(self, name)", "set_target": "(self, name, room)", "add_door": "(self, a, b)",
    "remove_door": "(self, a, b)", "add_room": "(self, name)", "undo": "(self)",
    "run_batch": "(self, actions, *, on_action=None)", "log": "(self)", "house": "(self, *, moment=None)",
    "placement": "(self, *, moment=None)", "targets": "(self, *, moment=None)", "actions": "(self)",
    "blocked_by": "(self, *, moment=None)", "copy": "(self)",
}
OPERATORS = ("__len__", "__eq__", "__str__")


def likely_argument(source, state):
    """A value that is often a valid argument."""
    names = [name for name, room in state[1]] or ["ann"]
    return source.choice([source.choice(names), source.choice(NAMES), source.randrange(state[0][0] + 1)])


def likely_action(source, state):
    word = source.choice(list(ARGUMENT_COUNTS))
    return (word, *[likely_argument(source, state) for time in range(ARGUMENT_COUNTS[word])])


def grown_session(session_class, seed, length):
    """A session after some actions that went well, always the same for a seed."""
    source = random.Random(seed)
    house, placement = source.choice([case for case in LARGE_CASES + SMALL_CASES[::50] if len(case[1]) > 2])
    session = session_class(house, placement)
    for time in range(2000):
        if len(session) >= length:
            break
        action = likely_action(source, state_of(session))
        if not is_error(own_act(state_of(session), action)):
            try:
                call(session, action)
            except ValueError:
                # Only a guarded session refuses what the document allows a plain one.
                assert session_class is GuardedSession
    return session


class InterfaceTest(SessionCase):
    def test_each_class_defines_its_methods_itself(self):
        for session_class in (Session, GuardedSession):
            self.assertEqual(session_class.__module__, sessions.__name__)
            for name, parameters in METHODS.items():
                with self.subTest(name):
                    self.assertIn(name, vars(session_class))
                    self.assertEqual(str(inspect.signature(getattr(session_class, name))), parameters)
        for name in OPERATORS:
            self.assertIn(name, vars(Session))
        self.assertTrue(issubclass(GuardedSession, Session))

    def test_moments_are_passed_by_keyword_only(self):
        session = Session(HOUSE, PLACEMENT)
        for function in (session.house, session.placement, session.targets, session.blocked_by):
            with self.assertRaises(TypeError):
                function(0)
        with self.assertRaises(TypeError):
            session.run_batch((), None)


class StartTest(SessionCase):
    def test_the_first_state(self):
        for house, placement in CASES:
            for session in (Session(house, placement), GuardedSession(house, placement)):
                self.assert_same(state_of(session), (house, placement, placement))
                self.assert_same([session.actions(), session.log(), len(session)], [(), (), 0])
                self.assertIsNone(session.blocked_by())

    def assert_error(self, error_name, house, placement):
        for session_class in (Session, GuardedSession):
            with self.assertRaises(ValueError) as context:
                session_class(house, placement)
            self.assertEqual(type(context.exception).__name__, error_name)
            self.assertEqual(vars(context.exception), {})

    def test_values_that_are_no_house(self):
        for value in (*OTHER_VALUES, 5, (9, ()), (3, ((0, 1), (0, 2), (1, 2))), [2, ((0, 1),)], (2, [(0, 1)]), (True, ())):
            for placement in ((), PLACEMENT, None, [("ann", 0)], 5):
                self.assert_error("InvalidHouse", value, placement)

    def test_values_that_are_no_placement(self):
        wrong = [("ann", 0)], (["ann", 0],), (("ann", 4),), (("ann", True),), (("ben", 0), ("ann", 0)), (("ann", 0),) * 2
        thirteen = tuple(zip(NAMES, [0] * 13))
        for value in (*wrong, thirteen, *[value for value in OTHER_VALUES if value != () or type(value) is not tuple]):
            if not is_placement(HOUSE, value):
                self.assert_error("InvalidPlacement", HOUSE, value)
        self.assertEqual(len(Session(HOUSE, thirteen[:12]).placement()), 12)


class ActionTest(SessionCase):
    def check_all_arguments(self, session, words, pool):
        for word in words:
            for arguments in itertools.product(pool, repeat=ARGUMENT_COUNTS[word]):
                self.check_action(session, (word, *arguments))

    def test_every_action_with_values_of_every_kind(self):
        for session in (Session(HOUSE, PLACEMENT), Session((2, ()), ())):
            self.check_all_arguments(session, ARGUMENT_COUNTS, ARGUMENTS)

    def test_every_action_in_many_states(self):
        pool = (*range(9), "ann", "ben", "kim", "max", "zz", "Zz", True, None, [0])
        for seed in range(8):
            self.check_all_arguments(grown_session(Session, seed, 4 + seed), ARGUMENT_COUNTS, pool)

    def test_every_error_alone_and_with_a_later_one(self):
        seen = set()
        for session in (Session(HOUSE, PLACEMENT), Session(LARGE_HOUSES[1], place([0] * 12))):
            for word in ARGUMENT_COUNTS:
                for arguments in itertools.product(ARGUMENTS, repeat=ARGUMENT_COUNTS[word]):
                    outcome = own_act(state_of(session), (word, *arguments))
                    seen.add((word, outcome[0] if is_error(outcome) else "ok"))
        self.assertEqual(seen, {
            ("move", "ok"), ("move", "UnknownPerson"), ("move", "InvalidRoom"), ("move", "NotAdjacent"),
            ("move", "EmptyRoom"), ("enter", "ok"), ("enter", "InvalidName"), ("enter", "DuplicateName"),
            ("enter", "InvalidRoom"), ("enter", "EmptyRoom"), ("enter", "LimitReached"), ("leave", "ok"),
            ("leave", "UnknownPerson"), ("set_target", "ok"), ("set_target", "UnknownPerson"),
            ("set_target", "InvalidRoom"), ("add_door", "ok"), ("add_door", "InvalidRoom"),
            ("add_door", "AlreadyAdjacent"), ("add_door", "WouldFormCycle"), ("remove_door", "ok"),
            ("remove_door", "InvalidRoom"), ("remove_door", "NotAdjacent"), ("add_room", "ok"),
            ("add_room", "UnknownPerson"), ("add_room", "LimitReached"),
        })
        self.check_all_arguments(Session(LARGE_HOUSES[1], place([0] * 12)), ("enter", "add_room"), ARGUMENTS)

    def test_a_thirteenth_person(self):
        session = Session(HOUSE, place([0] * 11))
        session.enter("zoe", 0)
        self.assert_refused(session, "LimitReached", [12], session.enter, "zed", 0)
        self.assert_refused(session, "EmptyRoom", [1], session.enter, "zed", 1)
        self.assert_refused(session, "InvalidRoom", [4], session.enter, "zed", 4)
        self.assert_refused(session, "DuplicateName", ["zoe"], session.enter, "zoe", 4)
        self.assert_refused(session, "InvalidName", ["Zoe"], session.enter, "Zoe", 0)
        session.leave("ann")
        session.enter("zed", 0)
        self.assertEqual(len(session.placement()), 12)

    def test_a_ninth_room(self):
        session = Session((7, ()), place([6, 6]))
        session.add_room("ann")
        self.assertEqual(session.house(), (8, ((6, 7),)))
        self.assert_refused(session, "LimitReached", [8], session.add_room, "ann")
        self.assert_refused(session, "UnknownPerson", ["zoe"], session.add_room, "zoe")

    def test_a_new_room_with_and_without_somebody_who_stays(self):
        session = Session((2, ((0, 1),)), place([0, 0, 1]))
        session.add_room("ann")
        self.assert_same(state_of(session), ((3, ((0, 1), (0, 2))), place([2, 0, 1]), place([0, 0, 1])))
        session.add_room("cid")
        self.assert_same(session.house(), (4, ((0, 1), (0, 2), (1, 3))))
        self.assert_same(session.placement(), place([2, 0, 3]))
        # Room 1 is empty now, so nobody can go back.
        self.assert_refused(session, "EmptyRoom", [1], session.move, "cid", 1)
        self.assertEqual(session.blocked_by(), ("outside", "cid"))

    def test_doors_in_both_argument_orders_and_cycles(self):
        for a, b in itertools.permutations(range(4), 2):
            session = Session((4, ()), ())
            session.add_door(a, b)
            self.assert_same(session.house(), (4, ((min(a, b), max(a, b)),)))
            self.assert_refused(session, "AlreadyAdjacent", [b], session.add_door, a, b)
            self.assert_refused(session, "AlreadyAdjacent", [a], session.add_door, b, a)
            session.remove_door(b, a)
            self.assert_same(session.house(), (4, ()))
            self.assert_refused(session, "NotAdjacent", [b], session.remove_door, a, b)
            self.assert_refused(session, "AlreadyAdjacent", [a], session.add_door, a, a)
        session = Session((4, ((0, 1), (1, 2), (2, 3))), ())
        for a, b in ((0, 2), (2, 0), (0, 3), (3, 0), (3, 1)):
            self.assert_refused(session, "WouldFormCycle", [b], session.add_door, a, b)
        session.remove_door(2, 1)
        session.add_door(3, 0)
        self.assertEqual(session.house(), (4, ((0, 1), (0, 3), (2, 3))))

    def test_states_stay_valid_and_follow_the_document(self):
        for seed in range(60):
            source = random.Random(seed)
            session = grown_session(Session, seed, 25)
            states = [state_of(session, moment=0)]
            for action in session.actions():
                states.append(own_act(states[-1], action))
            for moment, state in enumerate(states):
                self.assert_same(state_of(session, moment=moment), state)
                self.assertTrue(is_house(state[0]))
                self.assertTrue(is_placement(state[0], state[1]))
                self.assertTrue(is_target(state[0], state[1], state[2]))
            self.check_action(session, likely_action(source, states[-1]))


class HistoryTest(SessionCase):
    def full_session(self, session_class):
        session = session_class(EXCHANGE, place([0, 0, 1]))
        for time in range(30):
            session.move("ann", 1)
            session.move("ann", 0)
        return session

    def test_sixty_actions_and_a_sixty_first(self):
        for session_class in (Session, GuardedSession):
            session = self.full_session(session_class)
            self.assertEqual(len(session), 60)
            for word, count in ARGUMENT_COUNTS.items():
                for arguments in itertools.product((0, 1, "ann", "zoe", "", True, None, [1]), repeat=count):
                    self.assert_refused(session, "HistoryFull", [], call, session, (word, *arguments))
            session.undo()
            session.enter("zoe", 1)
            self.assertEqual(len(session), 60)
            self.assert_refused(session, "HistoryFull", [], session.leave, "zoe")

    def test_undo_down_to_the_first_state_and_once_more(self):
        for session in (self.full_session(Session), grown_session(Session, 5, 30), grown_session(GuardedSession, 6, 20)):
            states = [state_of(session, moment=moment) for moment in range(len(session) + 1)]
            actions = session.actions()
            for many in range(len(session), 0, -1):
                self.assertEqual(len(session), many)
                self.assertIsNone(session.undo())
                self.assert_same(state_of(session), states[many - 1])
                self.assert_same(session.actions(), actions[:many - 1])
            self.assert_refused(session, "NothingToUndo", [], session.undo)
            self.assert_same(state_of(session), states[0])

    def test_undo_at_once(self):
        self.assert_refused(session := Session(HOUSE, PLACEMENT), "NothingToUndo", [], session.undo)

    def test_an_action_that_failed_is_not_undone(self):
        session = Session(HOUSE, PLACEMENT)
        session.move("ann", 1)
        self.assert_refused(session, "EmptyRoom", [0], session.move, "ben", 0)
        session.undo()
        self.assert_same(state_of(session), start_of(HOUSE, PLACEMENT))

    def test_answers_depend_only_on_the_actions_in_effect(self):
        for seed in range(12):
            session = grown_session(Session, seed, 12)
            detour = Session(session.house(moment=0), session.placement(moment=0))
            source = random.Random(seed)
            for action in session.actions():
                other = likely_action(source, state_of(detour))
                if not is_error(own_act(state_of(detour), other)):
                    call(detour, other)
                    detour.undo()
                call(detour, action)
            self.assertEqual(snapshot(detour), snapshot(session))


class MomentTest(SessionCase):
    def test_every_moment_and_none(self):
        for seed in range(15):
            session = grown_session(Session, seed, 10)
            for query in (session.house, session.placement, session.targets, session.blocked_by):
                self.assert_same(query(moment=None), query())
                self.assert_same(query(moment=len(session)), query())
            for moment in range(len(session) + 1):
                state = state_of(session, moment=moment)
                self.assert_same(session.blocked_by(moment=moment), find_block(*state))

    def test_values_that_are_no_moments(self):
        session = grown_session(Session, 3, 5)
        self.assertEqual(len(session), 5)
        wrong = [value for value in OTHER_VALUES if value is not None] + [6, -5, -6, "5", (0,), [5], 5.0]
        for query in (session.house, session.placement, session.targets, session.blocked_by):
            for value in wrong:
                self.assert_refused(session, "InvalidMoment", [value], query, moment=value)

    def test_moments_after_undo(self):
        session = Session(HOUSE, PLACEMENT)
        session.move("ann", 1)
        session.undo()
        self.assert_refused(session, "InvalidMoment", [1], session.placement, moment=1)
        self.assert_refused(session, "InvalidMoment", [True], session.placement, moment=True)
        self.assert_refused(session, "InvalidMoment", [False], session.placement, moment=False)
        self.assert_same(session.placement(moment=0), PLACEMENT)

    def test_blocked_by_of_both_kinds(self):
        session = Session(EXCHANGE, place([0, 1]))
        session.set_target("ann", 1)
        session.set_target("ben", 0)
        session.remove_door(0, 1)
        found = [session.blocked_by(moment=moment) for moment in (0, 1, 2, 3)]
        self.assertEqual(found, [None, None, ("stuck", 0, ()), ("outside", "ann")])

    def test_actions_hold_the_arguments_as_passed(self):
        session = Session(HOUSE, PLACEMENT)
        for action in (("add_door", 3, 2), ("remove_door", 2, 1), ("enter", "zoe", 0), ("set_target", "zoe", 3)):
            call(session, action)
        self.assert_same(session.actions(), (
            ("add_door", 3, 2), ("remove_door", 2, 1), ("enter", "zoe", 0), ("set_target", "zoe", 3)))


class CopyTest(SessionCase):
    def test_a_copy_tells_the_same_and_is_of_the_same_class(self):
        for session_class in (Session, GuardedSession):
            for seed in range(10):
                session = grown_session(session_class, seed, 8)
                session.run_batch(())
                other = session.copy()
                self.assertIs(type(other), session_class)
                self.assertIsNot(other, session)
                self.assertEqual(snapshot(other), snapshot(session))
                self.assertEqual(other, session)

    def test_copies_and_copies_of_copies_go_different_ways(self):
        for session_class in (Session, GuardedSession):
            for seed in range(10):
                family = [grown_session(session_class, seed, 8)]
                family.append(family[0].copy())
                family.append(family[1].copy())
                for at, session in enumerate(family):
                    others = [snapshot(other) for other in family if other is not session]
                    source = random.Random(seed + 100 * at)
                    for time in range(30):
                        self.change(session, source)
                    self.assertEqual([snapshot(other) for other in family if other is not session], others)

    def change(self, session, source):
        try:
            if source.random() < 0.2:
                session.undo()
            elif source.random() < 0.2:
                session.run_batch((likely_action(source, state_of(session)),))
            else:
                call(session, likely_action(source, state_of(session)))
        except ValueError:
            pass

    def test_a_copy_can_undo(self):
        session = grown_session(Session, 9, 10)
        other = session.copy()
        while len(other):
            other.undo()
        self.assertEqual(len(session), 10)
        self.assert_same(state_of(other), state_of(session, moment=0))
        self.assert_refused(other, "NothingToUndo", [], other.undo)


class OperatorTest(SessionCase):
    def test_equality_after_different_histories(self):
        one, other = Session(HOUSE, PLACEMENT), Session(HOUSE, PLACEMENT)
        self.assertTrue(one == other)
        one.move("ann", 1)
        self.assertFalse(one == other)
        self.assertTrue(one != other)
        other.enter("zoe", 0)
        other.move("ann", 1)
        other.leave("zoe")
        self.assertTrue(one == other)
        self.assertFalse(one != other)
        other.run_batch(())
        self.assertTrue(one == other)

    def test_each_part_of_the_state_counts(self):
        base = Session(HOUSE, PLACEMENT)
        for action in (("add_door", 2, 3), ("set_target", "ann", 1), ("move", "ann", 1), ("enter", "zoe", 0)):
            other = base.copy()
            call(other, action)
            self.assertFalse(base == other)
            self.assertFalse(other == base)
        # The same house and placement, but another target.
        moved, placed = base.copy(), Session(HOUSE, place([1, 1, 1, 2]))
        moved.move("ann", 1)
        self.assertEqual(moved.placement(), placed.placement())
        self.assertFalse(moved == placed)
        placed.set_target("ann", 0)
        self.assertTrue(moved == placed)

    def test_plain_and_guarded_sessions(self):
        plain, guarded = Session(HOUSE, PLACEMENT), GuardedSession(HOUSE, PLACEMENT)
        self.assertFalse(plain == guarded)
        self.assertFalse(guarded == plain)
        self.assertTrue(plain != guarded)
        self.assertTrue(guarded == GuardedSession(HOUSE, PLACEMENT))
        self.assertTrue(guarded == guarded.copy())
        self.assertFalse(guarded == plain.copy())

    def test_other_values(self):
        for session in (Session(HOUSE, PLACEMENT), GuardedSession(HOUSE, PLACEMENT)):
            for value in (*OTHER_VALUES, 0, (HOUSE, PLACEMENT), state_of(session), str(session), object()):
                self.assertIs(session == value, False)
                self.assertIs(value == session, False)
                self.assertIs(session != value, True)

    def test_len_and_str(self):
        for session_class in (Session, GuardedSession):
            for seed in range(10):
                session = grown_session(session_class, seed, 9)
                rooms, doors = session.house()
                people, actions = len(session.placement()), len(session.actions())
                expected = f"{rooms} rooms, {len(doors)} doors, {people} people, {actions} actions"
                self.assertEqual(str(session), expected)
                self.assertEqual(len(session), actions)
        self.assertEqual(str(Session((1, ()), place([0]))), "1 rooms, 0 doors, 1 people, 0 actions")
        self.assertEqual(str(GuardedSession(EXCHANGE, ())), "2 rooms, 1 doors, 0 people, 0 actions")


if __name__ == "__main__":
    unittest.main()
