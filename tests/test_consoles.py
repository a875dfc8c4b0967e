"""Consoles: every form of line, its answers and its errors, and transcripts."""

import inspect
import itertools
import random
import re
import unittest

from fromwithin import consoles
from fromwithin.blocks import find_block, stuck_regions
from fromwithin.classes import class_size, count_reachable
from fromwithin.consoles import Console
from fromwithin.emptying import first_rooms
from fromwithin.errors import Blocked, TightRegion
from fromwithin.sessions import GuardedSession, Session
from session_support import EXCHANGE, HOUSE, PLACEMENT, SessionCase, is_error, own_act, snapshot, state_of
from support import LARGE_CASES, LARGE_HOUSES, NAMES, OTHER_VALUES, SMALL_CASES, between, own_outside, own_regions, place

INVALID = "error InvalidLine"
ACTIONS = {
    "move": "move", "enter": "enter", "leave": "leave", "target": "set_target", "connect": "add_door",
    "disconnect": "remove_door", "extend": "add_room",
}
NAME, ROOM = "[a-z]{1,8}", "(?:0|[1-9][0-9]?)"
FORMS = [
    f"(move|enter|target) ({NAME}) ({ROOM})", f"(leave|extend) ({NAME})", f"(connect|disconnect) ({ROOM}) ({ROOM})",
    "(undo|where|targets|counts|regions|blocked|class|reachable|first|helpers)", f"(passing) ({ROOM})",
]
QUERIES = ("where", "targets", "counts", "regions", "blocked", "class", "reachable", "first", "helpers")


def own_words(line):
    """The words of a line with rooms as numbers, or None if it has none of the forms."""
    for form in FORMS:
        found = re.fullmatch(form, line)
        if found:
            return [int(word) if word.isdigit() else word for word in found.groups()]
    return None


def own_action_answer(session, word, arguments):
    if word == "undo":
        return "ok" if len(session) else "error NothingToUndo"
    if len(session) >= 60:
        return "error HistoryFull"
    outcome = own_act(state_of(session), (ACTIONS[word], *arguments))
    if is_error(outcome):
        return f"error {outcome[0]}"
    if isinstance(session, GuardedSession) and find_block(*outcome) is not None:
        return "error Blocked"
    return "ok"


def own_people(pairs):
    return ", ".join(f"{name} {room}" for name, room in pairs) or "-"


def own_query_answer(session, word, arguments):
    house, placement, target = state = state_of(session)
    if word in ("where", "targets"):
        return own_people(placement if word == "where" else target)
    if word == "counts":
        rooms = [room for name, room in placement]
        return " ".join(str(rooms.count(room)) for room in range(house[0]))
    if word == "regions":
        return ", ".join(" ".join(map(str, region)) for region in own_regions(house, placement)) or "-"
    if word == "passing":
        if arguments[0] >= house[0]:
            return "error InvalidRoom"
        wanted = dict(target)
        passed = {name: between(house, room, wanted[name]) or () for name, room in placement}
        return " ".join(name for name in passed if arguments[0] in passed[name]) or "-"
    block = find_block(*state)
    if word == "blocked":
        return "open" if block is None else f"{block[0]} {block[1]}"
    if word == "class":
        return str(class_size(house, placement))
    if word == "helpers":
        if own_outside(*state):
            return "error Blocked"
        return " ".join(str(region[0]) for region in stuck_regions(*state)) or "-"
    try:
        if word == "reachable":
            return str(count_reachable(house, placement))
        return " ".join(map(str, first_rooms(*state))) or "-"
    except (Blocked, TightRegion) as error:
        return f"error {type(error).__name__}"


def own_answer(session, line):
    """The answer to a line, by the words of the document and the other modules."""
    words = own_words(line)
    if words is None:
        return INVALID
    if words[0] in ACTIONS or words[0] == "undo":
        return own_action_answer(session, words[0], words[1:])
    return own_query_answer(session, words[0], words[1:])


def some_line(source, session):
    """A line that is often valid."""
    names = [name for name, room in session.placement()] + [source.choice(NAMES), "zed"]
    name, rooms = source.choice(names), [source.randrange(session.house()[0] + 1) for time in range(2)]
    return source.choice((
        f"move {name} {rooms[0]}", f"move {name} {rooms[1]}", f"enter {name} {rooms[0]}", f"target {name} {rooms[0]}",
        f"leave {name}", f"extend {name}", f"connect {rooms[0]} {rooms[1]}", f"disconnect {rooms[0]} {rooms[1]}", "undo",
        f"passing {rooms[0]}", source.choice(QUERIES), source.choice(QUERIES)))


class InterfaceTest(SessionCase):
    def test_the_class_defines_its_methods_itself(self):
        self.assertEqual(Console.__module__, consoles.__name__)
        expected = {"__init__": "(self, session)", "execute": "(self, line)", "transcript": "(self)"}
        for name, parameters in expected.items():
            self.assertIn(name, vars(Console))
            self.assertEqual(str(inspect.signature(getattr(Console, name))), parameters)

    def test_the_session_is_an_attribute(self):
        for session in (Session(HOUSE, PLACEMENT), GuardedSession(HOUSE, PLACEMENT)):
            self.assertIs(Console(session).session, session)


class ConsoleCase(SessionCase):
    def check_line(self, console, line):
        """The answer is the expected one, and an error changes nothing but the transcript."""
        session = console.session
        before, expected, told = snapshot(session), own_answer(session, line), console.transcript()
        words = own_words(line) or [""]
        actions = session.actions()
        answer = console.execute(line)
        self.assert_same(answer, expected, (line, before))
        self.assert_same(console.transcript(), (told + ((line, answer),))[-20:])
        if answer != "ok":
            self.assertEqual(snapshot(session), before, line)
        elif words[0] == "undo":
            self.assertEqual(session.actions(), actions[:-1])
        else:
            self.assertEqual(session.actions(), actions + ((ACTIONS[words[0]], *words[1:]),))
        return answer


class LineTest(ConsoleCase):
    def test_every_form_with_its_answer_and_each_of_its_errors(self):
        seen = set()
        for session_class, seeds in ((Session, range(60)), (GuardedSession, range(60, 90))):
            for seed in seeds:
                source = random.Random(seed)
                house, placement = source.choice(LARGE_CASES + SMALL_CASES[::30])
                console = Console(session_class(house, placement))
                for time in range(60):
                    line = some_line(source, console.session)
                    answer = self.check_line(console, line)
                    word = line.partition(" ")[0]
                    seen.add((word, answer if word in ACTIONS or "error" in answer or answer in "ok-" else "told"))
        expected = {
            ("move", "ok"), ("move", "error UnknownPerson"), ("move", "error InvalidRoom"), ("move", "error NotAdjacent"),
            ("move", "error EmptyRoom"), ("move", "error Blocked"), ("enter", "ok"), ("enter", "error DuplicateName"),
            ("enter", "error InvalidRoom"), ("enter", "error EmptyRoom"), ("leave", "ok"),
            ("leave", "error UnknownPerson"), ("leave", "error Blocked"), ("target", "ok"), ("target", "error UnknownPerson"),
            ("target", "error InvalidRoom"), ("target", "error Blocked"), ("connect", "ok"), ("connect", "error InvalidRoom"),
            ("connect", "error AlreadyAdjacent"), ("connect", "error WouldFormCycle"), ("disconnect", "ok"),
            ("disconnect", "error InvalidRoom"), ("disconnect", "error NotAdjacent"), ("extend", "ok"),
            ("extend", "error UnknownPerson"), ("extend", "error LimitReached"), ("undo", "ok"),
            ("undo", "error NothingToUndo"), ("where", "told"), ("where", "-"), ("targets", "told"), ("targets", "-"),
            ("counts", "told"), ("regions", "told"), ("regions", "-"), ("blocked", "told"), ("class", "told"),
            ("reachable", "told"), ("reachable", "error TightRegion"), ("passing", "told"), ("passing", "-"),
            ("passing", "error InvalidRoom"), ("first", "told"), ("first", "-"), ("first", "error Blocked"),
            ("helpers", "-"), ("helpers", "error Blocked"),
        }
        self.assertEqual(expected - seen, set())

    def test_some_answers_as_written(self):
        console = Console(Session((8, ((0, 1), (1, 2), (3, 4), (6, 7))), place([0, 1, 2, 3, 4, 4, 6, 7])))
        for line, answer in (
            ("where", "ann 0, ben 1, cid 2, dan 3, eve 4, fay 4, gus 6, hal 7"), ("counts", "1 1 1 1 2 0 1 1"),
            ("regions", "0 1 2, 3 4, 6 7"), ("blocked", "open"), ("class", "6"), ("reachable", "error TightRegion"),
            ("target ann 2", "ok"), ("target cid 0", "ok"), ("passing 1", "ann cid"), ("blocked", "stuck 0"),
            ("helpers", "0"), ("target gus 7", "ok"), ("target hal 6", "ok"), ("helpers", "0 6"), ("first", "error Blocked"),
            ("targets", "ann 2, ben 1, cid 0, dan 3, eve 4, fay 4, gus 7, hal 6"), ("target ben 5", "ok"),
            ("blocked", "outside ben"), ("helpers", "error Blocked"), ("passing 8", "error InvalidRoom"), ("undo", "ok"),
            ("undo", "ok"), ("undo", "ok"), ("undo", "ok"), ("undo", "ok"), ("undo", "error NothingToUndo"),
            ("target ann 1", "ok"), ("target fay 3", "ok"), ("target eve 3", "ok"), ("first", "0 4"), ("helpers", "-"),
        ):
            self.assertEqual(console.execute(line), answer, line)

    def test_a_great_class(self):
        console = Console(Session(LARGE_HOUSES[1], place([*range(8), 0, 1, 2, 3])))
        self.assertEqual(console.execute("reachable"), str(8 ** 12))
        self.assertEqual(console.execute("class"), str(class_size(LARGE_HOUSES[1], place([*range(8), 0, 1, 2, 3]))))

    def test_nobody(self):
        console = Console(Session(HOUSE, ()))
        answers = [console.execute(word) for word in QUERIES]
        self.assertEqual(answers, ["-", "-", "0 0 0 0", "-", "open", "1", "1", "-", "-"])
        self.assertEqual(console.execute("passing 3"), "-")

    def test_a_full_history(self):
        console = Console(Session(EXCHANGE, place([0, 0, 1])))
        for time in range(60):
            self.assertEqual(console.execute(f"move ann {1 - time % 2}"), "ok")
        for line in ("move ann 1", "leave zoe", "extend ann", "connect 5 5", "enter ann 9", "target zoe 9", "disconnect 0 1"):
            self.check_line(console, line)
            self.assertEqual(console.transcript()[-1], (line, "error HistoryFull"))
        self.assertEqual(console.execute("where"), "ann 0, ben 0, cid 1")
        self.assertEqual(console.execute("undo"), "ok")
        self.assertEqual(console.execute("leave ann"), "ok")

    def test_a_thirteenth_person_and_a_ninth_room(self):
        console = Console(Session((8, ()), place([0] * 12)))
        self.assertEqual(self.check_line(console, "enter zoe 0"), "error LimitReached")
        self.assertEqual(self.check_line(console, "extend ann"), "error LimitReached")

    def test_two_digit_rooms(self):
        console = Console(Session(HOUSE, PLACEMENT))
        for number in (4, 9, 10, 42, 99):
            for line in (f"move ann {number}", f"enter zoe {number}", f"target ann {number}", f"connect {number} 0",
                         f"connect 0 {number}", f"disconnect {number} 0", f"passing {number}"):
                self.assertEqual(self.check_line(console, line), "error InvalidRoom")
            self.assertEqual(self.check_line(console, f"disconnect 0 {number}"), "error NotAdjacent")


class InvalidLineTest(ConsoleCase):
    def test_lines_changed_at_one_or_two_places(self):
        source = random.Random(90)
        signs = " \n\t0123456789abnmvxzAZ-+_,.~"
        valid = 0
        for seed in range(25):
            console = Console(Session(*source.choice(LARGE_CASES)))
            for time in range(60):
                line = some_line(source, console.session)
                for change in range(source.choice((1, 2))):
                    at = source.randint(0, len(line))
                    line = source.choice((
                        line[:at] + line[at + 1:], line[:at] + source.choice(signs) + line[at + 1:],
                        line[:at] + source.choice(signs) + line[at:], line[:at] + line[at:at + 1] + line[at:]))
                valid += self.check_line(console, line) != INVALID
        self.assertGreater(valid, 50)

    def test_wrong_lines(self):
        console = Console(Session(HOUSE, PLACEMENT))
        for line in (
            "", " ", "\n", "move", "move ann", "move 1", "move ann 1 ", " move ann 1", "move  ann 1", "move ann  1", "move ann 1\n",
            "move ann 01", "move ann 00", "move ann 001", "move ann 100", "move ann -1", "move ann +1", "move ann one", "Move ann 1",
            "MOVE ann 1", "move Ann 1", "move abcdefghi 1", "move ann1 1", "move ann 1 2", "move 1 ann", "move\tann\t1", "move ann 1.",
            "enter zoe", "enter 1 zoe", "leave", "leave ann 0", "leave Ann", "leave 0", "target ann", "set_target ann 1",
            "add_door 0 3", "connect 0", "connect 0 3 3", "connect a b", "connect 03 0", "disconnect", "disconnect 0-1", "extend",
            "extend 0", "add_room ann", "undo 1", "undo ", " undo", "Undo", "redo", "where ann", "where ", "targets 0", "target",
            "counts 0", "count", "regions ", "region 0", "blocked?", "class 1", "reachable ann", "passing", "passing ann", "passing 01",
            "passing 0 1", "first 0", "helpers\n", "helper", "log", "run_batch", "copy", "jump ann", "where\nwhere", "where,targets",
            "move ann \u0661", "leave \u00e9va", "~" * 4000, "undo " * 800,
        ):
            self.assertEqual(self.check_line(console, line), INVALID, line)
        self.assertEqual(len(console.session), 0)

    def test_words_of_lines_as_names(self):
        console = Console(Session(HOUSE, (("move", 0), ("undo", 0), ("where", 1))))
        for line in ("move move 1", "leave undo", "target where 0", "extend where", "enter targets 1"):
            self.assertEqual(self.check_line(console, line), "ok")

    def test_values_of_every_kind(self):
        console = Console(Session(HOUSE, PLACEMENT))
        wrong = [value for value in OTHER_VALUES if not isinstance(value, str)]
        for value in (*wrong, ["where"], ("where",), ["move", "ann", 1], {"where": 1}, b"where", 0, ("move", "ann", 1)):
            before = (snapshot(console.session), console.transcript())
            self.assert_same(console.execute(value), INVALID)
            self.assertEqual((snapshot(console.session), console.transcript()), before)
        for value in OTHER_VALUES:
            if isinstance(value, str):
                self.assertEqual(self.check_line(console, value), INVALID)


class TranscriptTest(ConsoleCase):
    def test_the_last_twenty_pairs(self):
        console = Console(Session(EXCHANGE, place([0, 0, 1])))
        self.assert_same(console.transcript(), ())
        pairs = []
        for time, line in enumerate(itertools.islice(itertools.cycle(("move ann 1", "where", "x", "", "undo")), 47)):
            pairs.append((line, console.execute(line)))
            console.execute(None)
            console.execute([line])
            self.assert_same(console.transcript(), tuple(pairs[-20:]))

    def test_two_consoles_of_one_session(self):
        session = Session(EXCHANGE, place([0, 0, 1]))
        one, other = Console(session), Console(session)
        self.assertEqual(one.execute("move ann 1"), "ok")
        self.assertEqual(other.execute("where"), "ann 1, ben 0, cid 1")
        self.assertEqual(other.execute("undo"), "ok")
        self.assertEqual(one.execute("undo"), "error NothingToUndo")
        session.leave("ben")
        self.assertEqual(one.execute("where"), "ann 0, cid 1")
        self.assertEqual(one.transcript(), (
            ("move ann 1", "ok"), ("undo", "error NothingToUndo"), ("where", "ann 0, cid 1")))
        self.assertEqual(other.transcript(), (("where", "ann 1, ben 0, cid 1"), ("undo", "ok")))

    def test_a_console_of_a_copy(self):
        session = Session(EXCHANGE, place([0, 0, 1]))
        console = Console(session)
        console.execute("move ann 1")
        other = Console(session.copy())
        self.assertEqual(other.transcript(), ())
        self.assertEqual(other.execute("undo"), "ok")
        self.assertEqual(other.execute("where"), "ann 0, ben 0, cid 1")
        self.assertEqual(console.execute("where"), "ann 1, ben 0, cid 1")


class BusyTest(ConsoleCase):
    def test_lines_during_a_callback(self):
        session = Session(EXCHANGE, place([0, 0, 1]))
        console = Console(session)
        told = []

        def look(given):
            for line in ("move ben 1", "enter zoe 9", "leave zoe", "target ann 9", "connect 9 9", "disconnect 9 9", "extend zoe",
                         "undo"):
                before = snapshot(given)
                self.assertEqual(console.execute(line), "error SessionBusy")
                self.assertEqual(snapshot(given), before)
            self.assertEqual(console.execute("jump"), INVALID)
            told.append([console.execute(word) for word in ("where", "targets", "counts", "blocked", "class", "passing 1")])

        session.run_batch((("move", "ann", 1), ("leave", "ann")), on_action=look)
        self.assertEqual(told, [
            ["ann 1, ben 0, cid 1", "ann 0, ben 0, cid 1", "1 2", "open", "6", "-"],
            ["ben 0, cid 1", "ben 0, cid 1", "1 1", "open", "1", "-"]])
        self.assertEqual(console.execute("undo"), "ok")
        self.assertEqual(len(console.transcript()), 20)

    def test_a_guarded_session(self):
        console = Console(GuardedSession(EXCHANGE, place([0, 1])))
        self.assertEqual(console.execute("target ann 1"), "ok")
        for line in ("target ben 0", "disconnect 0 1", "leave ben", "extend ben"):
            self.assertEqual(self.check_line(console, line), "error Blocked")
        self.assertEqual(console.execute("move ann 1"), "ok")
        self.assertEqual(self.check_line(console, "target ann 0"), "error Blocked")


if __name__ == "__main__":
    unittest.main()
