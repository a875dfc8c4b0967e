"""Consoles: lines of words that run actions and queries on a session (point 36)."""

from fromwithin.classes import class_size, count_reachable
from fromwithin.conventions import is_name
from fromwithin.emptying import first_rooms, helper_rooms
from fromwithin.errors import AlreadyAdjacent, Blocked, DuplicateName, EmptyRoom, HistoryFull, InvalidRoom, LimitReached
from fromwithin.errors import NotAdjacent, NothingToUndo, SessionBusy, TightRegion, UnknownPerson, WouldFormCycle
from fromwithin.houses import is_room
from fromwithin.placements import room_counts
from fromwithin.regions import find_regions
from fromwithin.tight import people_passing

OK = "ok"
NOTHING = "-"
INVALID_LINE = "error InvalidLine"
TRANSCRIPT_PAIRS = 20


def run_move(session, name, room):
    """A person moves."""
    session.move(name, room)
    return OK


def run_enter(session, name, room):
    """A person enters."""
    session.enter(name, room)
    return OK


def run_leave(session, name):
    """A person is removed."""
    session.leave(name)
    return OK


def run_target(session, name, room):
    """A person's target room changes."""
    session.set_target(name, room)
    return OK


def run_connect(session, a, b):
    """There is one more door."""
    session.add_door(a, b)
    return OK


def run_disconnect(session, a, b):
    """There is one door less."""
    session.remove_door(a, b)
    return OK


def run_extend(session, name):
    """A person goes into a new room."""
    session.add_room(name)
    return OK


def run_undo(session):
    """The last action in effect is reverted."""
    session.undo()
    return OK


def tell_where(session):
    """Return each person with their room."""
    return list_people(session.placement())


def tell_targets(session):
    """Return each person with their target room."""
    return list_people(session.targets())


def list_people(placement):
    """Return each person of a placement with the room, in order."""
    return ", ".join([f"{name} {room}" for name, room in placement]) or NOTHING


def list_words(values):
    """Return names or numbers with blanks between them."""
    return " ".join([str(value) for value in values]) or NOTHING


def tell_counts(session):
    """Return the number of people in each room."""
    return list_words(room_counts(session.house(), session.placement()))


def tell_regions(session):
    """Return the rooms of each region."""
    regions = find_regions(session.house(), session.placement())
    return ", ".join([list_words(region) for region in regions]) or NOTHING


def tell_blocked(session):
    """Return the person or the region of the block that find_block finds."""
    block = session.blocked_by()
    return "open" if block is None else f"{block[0]} {block[1]}"


def tell_class(session):
    """Return the number of placements in the class."""
    return str(class_size(session.house(), session.placement()))


def tell_reachable(session):
    """Return the number of reachable placements."""
    return str(count_reachable(session.house(), session.placement()))


def tell_passing(session, room):
    """Return who passes a room; raise InvalidRoom if it is no room."""
    if not is_room(session.house(), room):
        raise InvalidRoom(room)
    return list_words(people_passing(session.house(), session.placement(), session.targets(), room))


def tell_first(session):
    """Return the rooms that can be emptied first; raise Blocked if there is a block."""
    return list_words(first_rooms(session.house(), session.placement(), session.targets()))


def tell_helpers(session):
    """Return the first rooms of the stuck regions; raise Blocked if somebody is outside."""
    return list_words(helper_rooms(session.house(), session.placement(), session.targets()))


# For each first word of a line the function that answers it, and what the other words are.
LINES = {
    "move": (run_move, "NAME", "ROOM"),
    "enter": (run_enter, "NAME", "ROOM"),
    "leave": (run_leave, "NAME"),
    "target": (run_target, "NAME", "ROOM"),
    "connect": (run_connect, "ROOM", "ROOM"),
    "disconnect": (run_disconnect, "ROOM", "ROOM"),
    "extend": (run_extend, "NAME"),
    "undo": (run_undo,),
    "where": (tell_where,),
    "targets": (tell_targets,),
    "counts": (tell_counts,),
    "regions": (tell_regions,),
    "blocked": (tell_blocked,),
    "class": (tell_class,),
    "reachable": (tell_reachable,),
    "passing": (tell_passing, "ROOM"),
    "first": (tell_first,),
    "helpers": (tell_helpers,),
}


def is_line(words):
    """Return whether words form a line."""
    if words[0] not in LINES:
        return False
    form = LINES[words[0]]
    if len(words) != len(form):
        return False
    return all([is_word(kind, word) for kind, word in zip(form[1:], words[1:])])


def is_word(kind, word):
    """Return whether a word is a NAME or a ROOM, as its kind says."""
    return is_name(word) if kind == "NAME" else is_number(word)


def is_number(word):
    """Return whether a word is one or two digits without a leading zero."""
    if not 1 <= len(word) <= 2 or not all(["0" <= letter <= "9" for letter in word]):
        return False
    return word == "0" or word[0] != "0"


def answer_line(session, line):
    """Run a line on a session and return the answer."""
    words = line.split(" ")
    if not is_line(words):
        return INVALID_LINE
    answer = LINES[words[0]][0]
    return answer_or_error(answer, session, [int(word) if is_number(word) else word for word in words[1:]])


def answer_or_error(answer, session, arguments):
    """Return the answer of a function of a line, or the name of the error that it raises."""
    try:
        return answer(session, *arguments)
    except UnknownPerson:
        return "error UnknownPerson"
    except InvalidRoom:
        return "error InvalidRoom"
    except NotAdjacent:
        return "error NotAdjacent"
    except EmptyRoom:
        return "error EmptyRoom"
    except DuplicateName:
        return "error DuplicateName"
    except LimitReached:
        return "error LimitReached"
    except AlreadyAdjacent:
        return "error AlreadyAdjacent"
    except WouldFormCycle:
        return "error WouldFormCycle"
    except TightRegion:
        return "error TightRegion"
    except Blocked:
        return "error Blocked"
    except NothingToUndo:
        return "error NothingToUndo"
    except HistoryFull:
        return "error HistoryFull"
    except SessionBusy:
        return "error SessionBusy"


class Console:
    """Runs lines on a session and remembers the last ones with their answers."""

    def __init__(self, session):
        self.session = session
        self.pairs = ()

    def execute(self, line):
        """Run a line, which may be any value, and return the answer."""
        if not isinstance(line, str):
            return INVALID_LINE
        answer = answer_line(self.session, line)
        self.pairs = self.transcript() + ((line, answer),)
        return answer

    def transcript(self):
        """Return the last pairs (line, answer) of all lines so far that were strings."""
        return self.pairs[-TRANSCRIPT_PAIRS:]
