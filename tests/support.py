"""Houses, placements, other values and checks for the tests, with definitions that do not use the package."""

import copy
import inspect
import itertools
import random
import unittest

NAMES = ("ann", "ben", "cid", "dan", "eve", "fay", "gus", "hal", "ida", "joe", "kim", "lea", "max")

LARGE_HOUSES = (
    (8, ()),
    (8, ((0, 1), (1, 2), (2, 3), (3, 4), (4, 5), (5, 6), (6, 7))),
    (8, ((0, 3), (1, 3), (2, 3), (3, 4), (3, 5), (3, 6), (3, 7))),
    (8, ((0, 7), (1, 6), (1, 7), (2, 5), (2, 6), (3, 4), (3, 5))),
    (8, ((0, 1), (0, 2), (1, 3), (1, 4), (2, 5), (2, 6), (6, 7))),
    (8, ((0, 4), (1, 5), (2, 4), (3, 5), (6, 7))),
    (7, ((0, 6), (1, 2), (2, 6), (3, 5))),
    (6, ((0, 5), (1, 4), (2, 3))),
    (5, ((1, 3), (1, 4), (2, 4))),
)

# No value here is a name of a person or a room number of a house.
OTHER_VALUES = (
    None, True, False, -1, -8, 8, 9, 10 ** 59, -(10 ** 59), "", "zoe", "Ann", "ANN", "ann ", " ann", "an", "annn", "0",
    "1", "a b\n~", "~" * 4000, (), (0,), (1,), ("ann",), ("ann", 0), (("ann", 0),), (None, None), [], [0], ["ann"],
    [["ann"], [0]],
    {}, {"ann": 0}, {0: 1}, {0: "ann"}, ((), [{}]), {"ann": [{"ben": (1, [None])}]}, ("stuck", 0, ()),
)


def connected(doors, a, b):
    """Whether doors connect a and b, by merging sets of rooms until nothing changes."""
    reached = {a}
    while True:
        more = {room for door in doors if reached & set(door) for room in door}
        if more <= reached:
            return b in reached
        reached |= more


def forms_cycle(doors):
    """A door is on a cycle if its ends are still connected without it."""
    return any(connected(set(doors) - {door}, *door) for door in doors)


def all_doors(rooms):
    return tuple(itertools.combinations(range(rooms), 2))


def door_choices(rooms):
    pairs = all_doors(rooms)
    for size in range(len(pairs) + 1):
        yield from itertools.combinations(pairs, size)


def houses_with(rooms):
    for doors in door_choices(rooms):
        if not forms_cycle(doors):
            yield (rooms, doors)


HOUSES = tuple(house for rooms in range(1, 5) for house in houses_with(rooms)) + LARGE_HOUSES


def connected_houses(rooms):
    """All houses of that many rooms in which every room can be reached: a forest with so many doors is a tree."""
    return tuple(house for house in houses_with(rooms) if len(house[1]) == rooms - 1)


def subsets(rooms):
    for size in range(rooms + 1):
        yield from itertools.combinations(range(rooms), size)


def place(rooms):
    """The placement of as many people as there are rooms in the list."""
    return tuple(zip(NAMES, rooms))


def small_cases():
    """Every way to place up to four people in houses of up to three rooms, and up to three in those of four rooms."""
    for rooms, most in ((1, 4), (2, 4), (3, 4), (4, 3)):
        for house in houses_with(rooms):
            for people in range(most + 1):
                for choice in itertools.product(range(rooms), repeat=people):
                    yield house, place(choice)


def large_cases():
    """Houses of five to eight rooms with none to twelve people, scattered always in the same way."""
    source = random.Random(20)
    for house in LARGE_HOUSES:
        for people in range(13):
            yield house, place(source.choices(range(house[0]), k=people))
        yield house, place(range(house[0]))
        # Few rooms, so that most rooms are empty and one region is crowded.
        yield house, place(source.choices(source.sample(range(house[0]), 3), k=9))


SMALL_CASES = tuple(small_cases())
LARGE_CASES = tuple(large_cases())
CASES = SMALL_CASES + LARGE_CASES


def targets_for(house, placement):
    """Some targets, always the same: everybody at home, all in one room, all shifted by one, and scattered ones."""
    source = random.Random(len(placement) + 10 * len(house[1]))
    yield placement
    yield place([house[0] - 1 for pair in placement])
    yield place([(room + 1) % house[0] for name, room in placement])
    for time in range(3):
        yield place(source.choices(range(house[0]), k=len(placement)))


def own_regions(house, placement):
    occupied = {room for name, room in placement}
    inner = [door for door in house[1] if set(door) <= occupied]
    groups = {tuple(other for other in sorted(occupied) if connected(inner, room, other)) for room in occupied}
    return tuple(sorted(groups))


def own_region(house, placement, room):
    return next((region for region in own_regions(house, placement) if room in region), None)


def are_adjacent(house, a, b):
    return (min(a, b), max(a, b)) in house[1]


def own_moves(house, placement):
    """All moves by the definition: into an adjacent room in which somebody is."""
    occupied = {room for name, room in placement}
    return [(name, room) for name, here in placement for room in sorted(occupied) if are_adjacent(house, here, room)]


def own_step(placement, move):
    return tuple(sorted({**dict(placement), move[0]: move[1]}.items()))


def reachable(house, placement):
    """All placements that some sequence of moves reaches, by a search over all moves."""
    found = {placement}
    waiting = [placement]
    while waiting:
        here = waiting.pop()
        for move in own_moves(house, here):
            there = own_step(here, move)
            if there not in found:
                found.add(there)
                waiting.append(there)
    return found


def walk(house, placement, length, seed):
    """A sequence of at most that many possible moves, always the same for a seed, and the placements on the way."""
    source = random.Random(seed)
    moves, places = [], [placement]
    while len(moves) < length and (choices := own_moves(house, places[-1])):
        moves.append(source.choice(choices))
        places.append(own_step(places[-1], moves[-1]))
    return tuple(moves), places


def between(house, a, b):
    """The rooms strictly between a and b: those that are left out of every way from a to b. None without a way."""
    if not connected(house[1], a, b):
        return None
    others = set(range(house[0])) - {a, b}
    return {room for room in others if not connected([door for door in house[1] if room not in door], a, b)}


def own_next(house, here, there):
    """The adjacent room from which the way to there does not come back; None if there is none."""
    away = [door for door in house[1] if here not in door]
    near = [room for room in range(house[0]) if are_adjacent(house, here, room)]
    return next((room for room in near if here != there and connected(away, room, there)), None)


def own_outside(house, placement, target):
    wanted = dict(target)
    return tuple(name for name, here in placement if wanted[name] not in own_region(house, placement, here))


def own_tight_regions(house, placement):
    rooms = [room for name, room in placement]
    return tuple(
        region for region in own_regions(house, placement) if all(rooms.count(room) == 1 for room in region))


def search_orders(house, placement):
    """For each reachable placement the orders in which rooms are emptied on the ways to it, by a search."""
    waiting = [(placement, ())]
    found = {placement: {()}}
    while waiting:
        here, order = waiting.pop()
        for move in own_moves(house, here):
            there = own_step(here, move)
            emptied = {room for name, room in here} - {room for name, room in there}
            longer = order + tuple(emptied)
            if longer not in found.setdefault(there, set()):
                found[there].add(longer)
                waiting.append((there, longer))
    return found


def some_tree(source, rooms):
    """A connected house with that many rooms, numbered in any way."""
    numbers = source.sample(range(rooms), rooms)
    pairs = [(numbers[room], numbers[source.randrange(room)]) for room in range(1, rooms)]
    return (rooms, tuple(sorted((min(pair), max(pair)) for pair in pairs)))


def some_targets(source, house, placement, how_many):
    """Targets of several sorts: near ones, those with few wanted rooms, exchanges, and any."""
    here = [room for name, room in placement]
    for time in range(how_many):
        near = [[room, *[other for other in range(house[0]) if are_adjacent(house, room, other)]] for room in here]
        few = source.sample(range(house[0]), source.randint(1, house[0]))
        region = own_region(house, placement, here[0]) if here else ()
        yield place([source.choice(rooms) for rooms in near])
        yield place([source.choice(few) for room in here])
        yield place([source.choice([room, source.choice(region)]) if room in region else room for room in here])
        yield place(source.sample(here, len(here)))


def replaced(value, parts):
    """The value with each of its parts, at every depth, in turn replaced by each of the given parts or left out."""
    for part in parts:
        yield part
    if isinstance(value, tuple):
        yield list(value)
        yield value + value[-1:]
        yield value[::-1]
        for at, inner in enumerate(value):
            yield value[:at] + value[at + 1:]
            yield value[:at] + (inner,) + value[at:]
            for other in replaced(inner, parts):
                yield value[:at] + (other,) + value[at + 1:]


class SupportCase(unittest.TestCase):
    def assert_interface(self, module, expected):
        for name, parameters in expected.items():
            with self.subTest(name):
                function = getattr(module, name)
                self.assertEqual(function.__module__, module.__name__)
                self.assertEqual(tuple(inspect.signature(function).parameters), parameters)

    def call(self, function, *arguments):
        """Call twice: both calls return the same, and the arguments do not change. Not for calls that raise."""
        before = copy.deepcopy(arguments)
        found = function(*arguments)
        self.assertEqual(repr(function(*arguments)), repr(found))
        self.assertEqual(repr(arguments), repr(before))
        return found

    def assert_same(self, found, expected, about=None):
        """Equal values of equal kinds, at every depth: (1,) is neither [1] nor (True,)."""
        self.assertEqual(repr(found), repr(expected), about)

    def assert_raises(self, error_class, field, function, *arguments):
        """The call raises an error of just this class whose only field is the very value, and changes nothing."""
        before = copy.deepcopy(arguments)
        for time in ("first call", "second call"):
            with self.assertRaises(error_class, msg=(time, arguments)) as context:
                function(*arguments)
            self.assertIs(type(context.exception), error_class)
            held = list(vars(context.exception).values())
            self.assertEqual(len(held), 1)
            self.assert_same(held[0], field, arguments)
            if isinstance(field, (list, dict)):
                self.assertIs(held[0], field)
        self.assertEqual(repr(arguments), repr(before))
