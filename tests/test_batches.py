"""Batches of actions: all or none, callbacks, busy sessions and the log."""

import itertools
import random
import unittest

from fromwithin.blocks import find_block, is_block
from fromwithin.emptying import safe_moves
from fromwithin.errors import BatchFailed, HistoryFull, InvalidRoom, SessionBusy, UnknownPerson
from fromwithin.plans import find_plan
from fromwithin.sessions import GuardedSession, Session
from session_support import ARGUMENT_COUNTS, EXCHANGE, HOUSE, PLACEMENT, SessionCase
from session_support import call, is_error, own_act, snapshot, start_of, state_of
from support import OTHER_VALUES, place, some_targets, some_tree

TWENTY = (
    ("move", "ann", 1), ("enter", "zoe", 1), ("add_door", 3, 2), ("set_target", "dan", 1), ("add_room", "zoe"),
    ("remove_door", 3, 2), ("leave", "zoe"), ("move", "ben", 2), ("move", "dan", 1), ("move", "dan", 2),
    ("set_target", "ann", 2), ("enter", "eve", 2), ("add_door", 3, 0), ("move", "eve", 1), ("set_target", "eve", 0),
    ("add_room", "eve"), ("enter", "fay", 5), ("move", "fay", 1), ("leave", "fay"), ("remove_door", 0, 3),
)

# A guarded session accepts these, too.
GUARDED_TWO = (("move", "ben", 2), ("enter", "zoe", 1))


class OwnError(Exception):
    """An error of a callback."""


class BatchCase(SessionCase):
    def assert_fails(self, session, actions, position, error_name, **more):
        """The batch fails at a position, chained from an error; only the log changes."""
        before, rows = snapshot(session, with_log=False), session.log()
        with self.assertRaises(BatchFailed) as context:
            session.run_batch(actions, **more)
        self.assertIs(type(context.exception), BatchFailed)
        self.assert_same(vars(context.exception), {"position": position})
        self.assertEqual(type(context.exception.__cause__).__name__, error_name)
        self.assertEqual(snapshot(session, with_log=False), before)
        self.assert_same(session.log(), (rows + (("begin", len(actions)), ("end", 0)))[-10:])
        return context.exception.__cause__


class RunBatchTest(BatchCase):
    def test_an_empty_tuple(self):
        session = Session(HOUSE, PLACEMENT)
        before = snapshot(session, with_log=False)
        self.assertIsNone(session.run_batch(()))
        self.assertEqual(snapshot(session, with_log=False), before)
        self.assert_same(session.log(), (("begin", 0), ("end", 0)))

    def test_one_to_twenty_actions(self):
        for many in range(1, 21):
            session, other = Session(HOUSE, PLACEMENT), Session(HOUSE, PLACEMENT)
            self.assertIsNone(session.run_batch(TWENTY[:many]))
            for action in TWENTY[:many]:
                call(other, action)
            self.assertEqual(snapshot(session, with_log=False), snapshot(other, with_log=False))
            self.assert_same(session.log(), (("begin", many), ("end", many)))
            self.assert_same(session.actions(), TWENTY[:many])
            for time in range(many):
                session.undo()
            self.assert_same(state_of(session), start_of(HOUSE, PLACEMENT))
            self.assert_same(session.log(), (("begin", many), ("end", many)))

    def test_values_that_are_no_batch(self):
        session = Session(HOUSE, PLACEMENT)
        good = ("move", "ann", 1)
        wrong = [
            [good], [], (list(good),), good, (good, None), (good, ()), ((),), (("undo",),), (good, ("undo",)),
            (("run_batch", ()),), (("copy",),), (("house",),), (("placement",),), (("log",),), (("act", good),),
            (("move", "ann"),), (("move",),), (("move", "ann", 1, 2),), (("leave",),), (("leave", "ann", 0),),
            (("add_room", "ann", 0),), (("add_door", 0),), (("jump", "ann", 1),), (("Move", "ann", 1),),
            (("move ", "ann", 1),), ((None, "ann", 1),), ((["move"], "ann", 1),), (({}, "ann", 1),), ((("move",), "ann", 1),),
            ((True, "ann", 1),), "move", {"move": good}, {good: 1}, TWENTY + (good,), (("leave", "zoe"),) * 21, (good, "leave"),
            (("__init__", HOUSE, PLACEMENT),), (("target", "ann", 1),), (("extend", "ann"),),
        ]
        for value in wrong + [value for value in OTHER_VALUES if value != () or type(value) is not tuple]:
            self.assert_refused(session, "InvalidActions", [], session.run_batch, value)
            self.assert_refused(session, "InvalidActions", [], session.run_batch, value, on_action=self.fail)
        for word, count in ARGUMENT_COUNTS.items():
            for many in range(5):
                if many != count:
                    value = (good, (word, *["ann", 0, 1, 2][:many]))
                    self.assert_refused(session, "InvalidActions", [], session.run_batch, value)

    def test_arguments_of_every_kind_fail_in_the_batch(self):
        session = Session(HOUSE, PLACEMENT)
        for word, count in ARGUMENT_COUNTS.items():
            for value in OTHER_VALUES:
                action = (word, *[value] * count)
                expected = own_act(state_of(session), action)
                if is_error(expected):
                    cause = self.assert_fails(session, (action,), 0, expected[0])
                    self.assert_same(list(vars(cause).values()), list(expected[1:]))

    def test_a_failing_action_at_each_position(self):
        wrong = {
            ("leave", "nobody"): "UnknownPerson", ("move", "ben", 77): "InvalidRoom", ("enter", "Eve", 0): "InvalidName",
            ("enter", "ben", 0): "DuplicateName", ("add_door", 1, 1): "AlreadyAdjacent", ("remove_door", 0, 0): "NotAdjacent",
        }
        for many in (1, 2, 7, 20):
            for position in range(many):
                for action, error_name in wrong.items():
                    session = Session(HOUSE, PLACEMENT)
                    session.add_door(0, 3)
                    session.remove_door(3, 0)
                    actions = TWENTY[:position] + (action,) + TWENTY[position:many - 1]
                    self.assert_fails(session, actions, position, error_name)

    def test_the_first_failing_action_counts(self):
        session = Session(HOUSE, PLACEMENT)
        self.assert_fails(session, (("leave", "ann"), ("leave", "ann"), ("leave", "zoe")), 1, "UnknownPerson")

    def test_history_full_within_a_batch(self):
        session = Session(EXCHANGE, place([0, 0, 1]))
        there_and_back = (("move", "ann", 1), ("move", "ann", 0))
        for time in range(5):
            session.run_batch(there_and_back * 5)
        self.assertEqual(len(session), 50)
        cause = self.assert_fails(session, there_and_back * 6, 10, "HistoryFull")
        self.assertIs(type(cause), HistoryFull)
        # Before all other errors of the action.
        self.assert_fails(session, there_and_back * 5 + (("leave", "nobody"),), 10, "HistoryFull")
        session.run_batch(there_and_back * 5)
        self.assertEqual(len(session), 60)
        self.assert_fails(session, (("leave", "ann"),), 0, "HistoryFull")
        session.run_batch(())
        self.assertEqual(len(session), 60)
        self.assert_refused(session, "InvalidActions", [], session.run_batch, [])

    def test_random_batches(self):
        source = random.Random(40)
        values = ["ann", "ben", "cid", "dan", "eve", "zed", 0, 1, 2, 3, 4]
        failed = 0
        for time in range(150):
            session = Session(HOUSE, PLACEMENT)
            actions = []
            for step in range(source.randint(1, 6)):
                word = source.choice(list(ARGUMENT_COUNTS))
                actions.append((word, *source.choices(values, k=ARGUMENT_COUNTS[word])))
            state, fails_at = state_of(session), None
            for position, action in enumerate(actions):
                outcome = own_act(state, action)
                if is_error(outcome):
                    fails_at = position
                    break
                state = outcome
            if fails_at is None:
                session.run_batch(tuple(actions))
                self.assert_same(state_of(session), state)
            else:
                self.assert_fails(session, tuple(actions), fails_at, outcome[0])
                failed += 1
        self.assertGreater(failed, 20)


class CallbackTest(BatchCase):
    def test_it_is_called_after_each_action_with_the_session(self):
        session = Session(HOUSE, PLACEMENT)
        session.add_door(3, 0)
        seen = []

        def look(given):
            self.assertIs(given, session)
            seen.append((given.actions(), state_of(given), given.log()))

        session.run_batch(TWENTY[:2], on_action=look)
        self.assertEqual([actions for actions, state, rows in seen], [
            (("add_door", 3, 0), *TWENTY[:1]), (("add_door", 3, 0), *TWENTY[:2])])
        self.assertEqual([rows for actions, state, rows in seen], [(("begin", 2),)] * 2)
        self.assertEqual(seen[1][1], state_of(session))
        self.assertEqual(session.log(), (("begin", 2), ("end", 2)))

    def test_it_is_not_called_for_an_empty_batch_or_after_the_action_that_fails(self):
        session = Session(HOUSE, PLACEMENT)
        seen = []
        session.run_batch((), on_action=seen.append)
        self.assertEqual(seen, [])
        self.assert_fails(session, (*TWENTY[:3], ("leave", "nobody")), 3, "UnknownPerson", on_action=seen.append)
        self.assertEqual(len(seen), 3)
        session.run_batch(TWENTY[:3], on_action=None)

    def test_all_queries_are_allowed(self):
        for session_class in (Session, GuardedSession):
            session = session_class(HOUSE, PLACEMENT)
            told = []
            session.run_batch(
                GUARDED_TWO, on_action=lambda given: told.append((snapshot(given, with_log=False), given.log())))
            other = session_class(HOUSE, PLACEMENT)
            for at, action in enumerate(GUARDED_TWO):
                call(other, action)
                self.assertEqual(told[at], (snapshot(other, with_log=False), (("begin", 2),)))

    def test_invalid_moments_during_the_call(self):
        session = Session(HOUSE, PLACEMENT)

        def look(given):
            self.assert_refused(given, "InvalidMoment", [2], given.placement, moment=2)
            self.assertEqual(given.placement(moment=0), PLACEMENT)

        session.run_batch((("move", "ann", 1),), on_action=look)

    def test_actions_undo_and_batches_are_refused(self):
        for session_class in (Session, GuardedSession):
            session = session_class(HOUSE, PLACEMENT)

            def try_all(given):
                for word, count in ARGUMENT_COUNTS.items():
                    for arguments in itertools.product(("ann", 1, None, [0]), repeat=count):
                        self.assert_refused(given, "SessionBusy", [], call, given, (word, *arguments))
                self.assert_refused(given, "SessionBusy", [], given.undo)
                for actions in ((), (("leave", "ann"),), [], None, 5):
                    self.assert_refused(given, "SessionBusy", [], given.run_batch, actions)
                    self.assert_refused(given, "SessionBusy", [], given.run_batch, actions, on_action=self.fail)

            session.run_batch(GUARDED_TWO, on_action=try_all)
            self.assert_same(session.actions(), GUARDED_TWO)
            session.undo()
            session.run_batch((("set_target", "cid", 2),))

    def test_busy_also_when_the_history_is_full(self):
        session = Session(EXCHANGE, place([0, 0, 1]))
        for time in range(59):
            session.move("ann", 1 - time % 2)
        session.run_batch(
            (("leave", "ann"),), on_action=lambda given: self.assert_refused(given, "SessionBusy", [], given.leave, "ben"))
        self.assertEqual(len(session), 60)

    def test_refused_calls_that_are_not_caught_end_the_batch(self):
        session = Session(HOUSE, PLACEMENT)
        before = snapshot(session, with_log=False)
        for refused in (lambda given: given.undo(), lambda given: given.leave("ann"), lambda given: given.run_batch(())):
            with self.assertRaises(SessionBusy) as context:
                session.run_batch(TWENTY[:3], on_action=refused)
            self.assertIs(type(context.exception), SessionBusy)
            self.assertEqual(snapshot(session, with_log=False), before)
            self.assertEqual(session.log()[-2:], (("begin", 3), ("end", 0)))
        session.run_batch(TWENTY[:3])

    def test_errors_of_the_callback_propagate_and_the_state_is_restored(self):
        for error in (OwnError("why"), UnknownPerson("ann"), InvalidRoom([1]), KeyboardInterrupt(), ValueError(), TypeError()):
            for position in (0, 1, 4):
                session = Session(HOUSE, PLACEMENT)
                session.add_door(3, 1)
                session.undo()
                session.set_target("ann", 2)
                before = snapshot(session, with_log=False)
                seen = []

                def fail(given):
                    seen.append(given)
                    if len(seen) == position + 1:
                        raise error

                with self.assertRaises(type(error)) as context:
                    session.run_batch(TWENTY[:5], on_action=fail)
                self.assertIs(context.exception, error)
                self.assertEqual(snapshot(session, with_log=False), before)
                self.assert_same(session.log(), (("begin", 5), ("end", 0)))
                # The session is not busy any more.
                session.run_batch(TWENTY[:5])
                session.undo()

    def test_other_sessions_are_not_busy(self):
        session, other = Session(HOUSE, PLACEMENT), Session(HOUSE, PLACEMENT)

        def change_other(given):
            other.run_batch((("set_target", "ann", len(other) % 3),), on_action=lambda inner: self.assertIs(inner, other))
            other.set_target("ben", 0)

        session.run_batch(TWENTY[:3], on_action=change_other)
        self.assertEqual(len(other), 6)
        self.assertEqual(len(session), 3)

    def test_a_copy_made_during_the_call(self):
        for session_class in (Session, GuardedSession):
            session = session_class(HOUSE, PLACEMENT)
            session.run_batch((("set_target", "ann", 1),))
            copies = []

            def copy(given):
                other = given.copy()
                self.assertIs(type(other), session_class)
                self.assertEqual(snapshot(other), snapshot(given))
                self.assertEqual(other.log(), (("begin", 1), ("end", 1), ("begin", 2)))
                other.undo()
                other.set_target("cid", 2)
                other.run_batch((("leave", "cid"),))
                self.assertEqual(
                    other.log(), (("begin", 1), ("end", 1), ("begin", 2), ("begin", 1), ("end", 1)))
                copies.append((other, snapshot(other)))

            session.run_batch((("move", "ann", 1), ("enter", "zoe", 1)), on_action=copy)
            self.assertEqual(len(session), 3)
            for other, told in copies:
                self.assertEqual(snapshot(other), told)
            self.assertEqual([len(other) for other, told in copies], [3, 4])


class LogTest(BatchCase):
    def test_the_last_ten_rows(self):
        session = Session(EXCHANGE, place([0, 0, 1]))
        rows = []
        for time in range(9):
            actions = (("move", "ann", 1), ("move", "ann", 0))[:2 * (time % 2)]
            session.run_batch(actions)
            rows += [("begin", len(actions)), ("end", len(actions))]
            self.assert_same(session.log(), tuple(rows[-10:]))
            self.assert_fails(session, (("leave", "zoe"),) * (time + 1), 0, "UnknownPerson")
            rows += [("begin", time + 1), ("end", 0)]
            self.assert_same(session.log(), tuple(rows[-10:]))

    def test_ten_rows_during_a_batch(self):
        session = Session(EXCHANGE, place([0, 0, 1]))
        for time in range(5):
            session.run_batch(())
        told = []
        session.run_batch((("move", "ann", 1),), on_action=lambda given: told.append(given.log()))
        self.assert_same(told, [(("end", 0), *[("begin", 0), ("end", 0)] * 4, ("begin", 1))])
        self.assert_same(session.log(), (*[("begin", 0), ("end", 0)] * 4, ("begin", 1), ("end", 1)))

    def test_single_actions_undo_and_refused_batches_add_no_rows(self):
        session = Session(HOUSE, PLACEMENT)
        session.move("ann", 1)
        session.undo()
        for value in (None, [], (("undo",),)):
            self.assert_refused(session, "InvalidActions", [], session.run_batch, value)
        self.assert_same(session.log(), ())

    def test_undo_does_not_change_the_log(self):
        session = Session(HOUSE, PLACEMENT)
        session.run_batch(TWENTY[:4])
        for time in range(4):
            session.undo()
        self.assert_same(session.log(), (("begin", 4), ("end", 4)))


class GuardedBatchTest(BatchCase):
    def test_plans_and_safe_moves_are_accepted(self):
        source = random.Random(68)
        for time in range(20):
            house, placement = some_tree(source, 7), place([*range(7), *source.choices(range(7), k=time % 4)])
            session = GuardedSession(house, placement)
            for target in some_targets(source, house, placement, 1):
                wishes = tuple(("set_target", name, room) for name, room in target)
                if find_block(house, placement, target) is None and len(session) == 0:
                    # Each wish alone may be impossible, even if all together are not.
                    try:
                        session.run_batch(wishes)
                    except BatchFailed as error:
                        self.assertEqual(type(error.__cause__).__name__, "Blocked")
            for move in safe_moves(*state_of(session)):
                session.run_batch((("move", *move),), on_action=lambda given: self.assertIsNone(given.blocked_by()))
                session.undo()
            moves = [("move", *move) for move in find_plan(*state_of(session))][:60 - len(session)]
            while moves:
                session.run_batch(tuple(moves[:20]), on_action=lambda given: self.assertIsNone(given.blocked_by()))
                moves = moves[20:]
            if len(session) < 60:
                self.assertEqual(session.placement(), session.targets())

    def test_each_action_must_leave_no_block(self):
        # After both actions there would be no block, but after the first one there is.
        session = GuardedSession((3, ((0, 1), (1, 2))), place([0, 1, 2]))
        actions = (("leave", "ben"), ("set_target", "ann", 1))
        self.assert_fails(session, actions, 1, "Blocked")
        actions = (("set_target", "ann", 1), ("set_target", "ben", 0), ("enter", "zoe", 2))
        cause = self.assert_fails(session, actions, 1, "Blocked")
        state = ((3, ((0, 1), (1, 2))), place([0, 1, 2]), place([1, 0, 2]))
        self.assertIs(is_block(*state, cause.block), True)
        session.run_batch((actions[2], *actions[:2]))
        self.assertEqual(len(session), 3)

    def test_random_batches(self):
        source = random.Random(31)
        refused = 0
        for time in range(120):
            session = GuardedSession(HOUSE, PLACEMENT)
            actions = []
            for step in range(5):
                word = source.choice(("move", "leave", "set_target", "remove_door", "add_room"))
                values = ["ann", "ben", "cid", "dan"] if word not in ("remove_door",) else [0, 1, 2]
                actions.append((word, source.choice(values), source.randrange(3))[:1 + ARGUMENT_COUNTS[word]])
            other = session.copy()
            error = None
            for position, action in enumerate(actions):
                try:
                    call(other, action)
                except ValueError as caught:
                    error = caught
                    break
            if error is None:
                session.run_batch(tuple(actions))
                self.assertEqual(snapshot(session, with_log=False), snapshot(other, with_log=False))
            else:
                cause = self.assert_fails(session, tuple(actions), position, type(error).__name__)
                self.assertEqual(vars(cause), vars(error))
                refused += type(error).__name__ == "Blocked"
        self.assertGreater(refused, 10)


if __name__ == "__main__":
    unittest.main()
