"""Guarded sessions: their target stays reachable."""

import itertools
import random
import unittest

from fromwithin.blocks import find_block, is_block
from fromwithin.emptying import safe_moves
from fromwithin.errors import Blocked
from fromwithin.plans import find_plan
from fromwithin.sessions import GuardedSession, Session
from session_support import ARGUMENTS, ARGUMENT_COUNTS, EXCHANGE, HOUSE, PLACEMENT, SessionCase
from session_support import call, is_error, own_act, snapshot, state_of
from support import LARGE_CASES, SMALL_CASES, place


class GuardedCase(SessionCase):
    def check_guarded(self, session, action):
        """What the document says of an action of a guarded session; returns how it ended."""
        before, expected = snapshot(session), own_act(state_of(session), action)
        if is_error(expected):
            self.assert_refused(session, expected[0], expected[1:], call, session, action)
            return "error"
        if find_block(*expected) is None:
            self.assertIsNone(call(session, action))
            self.assert_same(state_of(session), expected)
            return "ok"
        for time in ("first call", "second call"):
            with self.assertRaises(Blocked, msg=(time, action)) as context:
                call(session, action)
            self.assertIs(type(context.exception), Blocked)
            self.assertIs(is_block(*expected, context.exception.block), True)
            self.assertEqual(snapshot(session), before)
        return "blocked"


class ActionTest(GuardedCase):
    def test_every_action_with_values_of_every_kind(self):
        ends = {"ok": 0, "error": 0, "blocked": 0}
        session = GuardedSession(HOUSE, PLACEMENT)
        session.set_target("ann", 2)
        for word, count in ARGUMENT_COUNTS.items():
            for arguments in itertools.product(ARGUMENTS, repeat=count):
                end = self.check_guarded(session, (word, *arguments))
                ends[end] += 1
                if end == "ok":
                    session.undo()
        self.assertGreater(min(ends.values()), 5, ends)

    def test_many_sessions_and_moments(self):
        blocked = {word: 0 for word in ARGUMENT_COUNTS}
        for seed in range(60):
            source = random.Random(seed)
            house, placement = source.choice(LARGE_CASES + SMALL_CASES[::20])
            session = GuardedSession(house, placement)
            for time in range(40):
                word = source.choice(list(ARGUMENT_COUNTS))
                names = [name for name, room in session.placement()] + ["zed"]
                values = [source.choice(names), source.randrange(session.house()[0])]
                if word in ("add_door", "remove_door"):
                    values = source.choices(range(session.house()[0]), k=2)
                if self.check_guarded(session, (word, *values)[:1 + ARGUMENT_COUNTS[word]]) == "blocked":
                    blocked[word] += 1
            for moment in range(len(session) + 1):
                self.assertIsNone(session.blocked_by(moment=moment))
            while len(session):
                session.undo()
                self.assertIsNone(session.blocked_by())
        # One more person, or one more door between two regions, never makes a target unreachable.
        self.assertEqual(blocked.pop("enter"), 0)
        self.assertEqual(blocked.pop("add_door"), 0)
        self.assertGreater(min(blocked.values()), 5, blocked)

    def test_an_exchange_is_refused(self):
        session = GuardedSession(EXCHANGE, place([0, 1]))
        session.set_target("ann", 1)
        self.assert_refused(session, "Blocked", [("stuck", 0, ())], session.set_target, "ben", 0)
        self.assert_refused(session, "Blocked", [("outside", "ann")], session.remove_door, 1, 0)
        self.assert_refused(session, "Blocked", [("outside", "ann")], session.leave, "ben")
        session.enter("cid", 0)
        session.set_target("ben", 0)
        self.assertIsNone(session.blocked_by())

    def test_blocked_is_the_last_error(self):
        session = GuardedSession(EXCHANGE, place([0, 1]))
        session.set_target("ann", 1)
        self.assert_refused(session, "InvalidRoom", [2], session.set_target, "ben", 2)
        self.assert_refused(session, "UnknownPerson", ["zoe"], session.set_target, "zoe", 0)
        for time in range(59):
            session.set_target("ann", 1)
        self.assert_refused(session, "HistoryFull", [], session.set_target, "ben", 0)

    def test_a_plain_session_is_not_refused(self):
        session = Session(EXCHANGE, place([0, 1]))
        session.set_target("ann", 1)
        session.set_target("ben", 0)
        self.assertEqual(session.blocked_by(), ("stuck", 0, ()))
        self.assertIsNone(GuardedSession(EXCHANGE, place([0, 1])).blocked_by())


class MovesTest(GuardedCase):
    def targeted_sessions(self):
        """Guarded sessions whose people want other rooms, as far as that is allowed."""
        for seed in range(40):
            source = random.Random(seed)
            house, placement = source.choice([case for case in LARGE_CASES if len(case[1]) > 4])
            session = GuardedSession(house, placement)
            for name, room in placement:
                try:
                    session.set_target(name, source.randrange(house[0]))
                except Blocked:
                    continue
            yield session

    def test_every_move_of_a_plan_is_accepted(self):
        moves = 0
        for session in self.targeted_sessions():
            plan = find_plan(*state_of(session))
            for name, room in plan[:60 - len(session)]:
                session.move(name, room)
                moves += 1
            self.assertIsNone(session.blocked_by())
            if len(session) < 60:
                self.assertEqual(session.placement(), session.targets())
        self.assertGreater(moves, 100)

    def test_every_safe_move_is_accepted_and_every_other_one_is_refused(self):
        refused = 0
        for session in self.targeted_sessions():
            safe = safe_moves(*state_of(session))
            for name, here in session.placement():
                for room in range(session.house()[0]):
                    end = self.check_guarded(session, ("move", name, room))
                    self.assertEqual(end == "ok", (name, room) in safe)
                    refused += end == "blocked"
                    if end == "ok":
                        session.undo()
        self.assertGreater(refused, 20)

    def test_a_guarded_copy_stays_guarded(self):
        session = GuardedSession(EXCHANGE, place([0, 1]))
        session.set_target("ann", 1)
        other = session.copy()
        self.assert_refused(other, "Blocked", [("stuck", 0, ())], other.set_target, "ben", 0)


if __name__ == "__main__":
    unittest.main()
