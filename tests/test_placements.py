"""Placements and targets, checked with every kind of value, and the functions that read a placement."""

import unittest

from fromwithin import placements
from fromwithin.errors import UnknownPerson
from fromwithin.placements import empty_rooms, is_placement, is_target, people_in, room_counts, room_of
from support import CASES, HOUSES, LARGE_HOUSES, NAMES, OTHER_VALUES, SupportCase, place

HOUSE = (3, ((0, 1), (1, 2)))
TWELVE = place([0, 1, 2] * 4)

NOT_NAMES = (
    "", "abcdefghi", "a" * 4000, "ann1", "1", "0ann", "Ann", "aNN", "ANN", "an n", " ann", "ann ", " ", "an-n", "an_n",
    "ann.", "~", "`", "{", "@", "[", "ann\n", "\n", None, True, False, 0, 1, -1, 10 ** 59, (), ("ann",), [], ["ann"],
    {}, {"ann": 0},
)

NOT_ROOMS = (
    3, 4, -1, -3, 10 ** 59, -(10 ** 59), True, False, None, "", "0", "ann", (), (0,), [], [0], {}, {0: 0}, ((0, 1),),
)

NOT_PAIRS = (
    (), ("ann",), ("ann", 0, 0), ("ann", 0, None), ["ann", 0], ("ann", [0]), (["ann"], 0), (("ann", 0),), "ann", "an",
    {"ann": 0}, {"ann": 0, "ben": 1}, None, True, False, 0, 7, [], {}, (0, "ann"), ("ann", "ben"), (0, 1), (None, None),
)


def nested(depth):
    value = ()
    for time in range(depth):
        value = (value,)
    return value


NO_PLACEMENTS = (
    None, True, False, 0, 1, -1, 10 ** 59, "", "ann", "ann 0", "~" * 4000, "\n", [], {}, {"ann": 0}, {("ann", 0): True},
    [("ann", 0)], ("ann", 0), ("ann",), (0,), (None,), ((),), ("",), ({"ann": 0},), ({},), ([],), (HOUSE,), HOUSE,
    nested(19), (nested(18),), (("ann", nested(17)),), ((nested(17), 0),), ("stuck", 0, ()), (0, 1, 2),
    (("ann", 0), None), ((("ann", 0),),), ("a0",) * 500,
)


class InterfaceTest(SupportCase):
    def test_functions_are_defined_here_with_these_parameters(self):
        self.assert_interface(placements, {
            "is_placement": ("house", "value"),
            "is_target": ("house", "placement", "value"),
            "room_of": ("placement", "name"),
            "people_in": ("placement", "room"),
            "room_counts": ("house", "placement"),
            "empty_rooms": ("house", "placement"),
        })


class IsPlacementTest(SupportCase):
    def assert_is_placement(self, value, expected, house=HOUSE):
        self.assertIs(self.call(is_placement, house, value), expected, (house, repr(value)[:200]))

    def test_none_to_twelve_people(self):
        for people in range(13):
            self.assert_is_placement(TWELVE[:people], True)
            self.assert_is_placement(place([2] * people), True)
        self.assert_is_placement((), True)

    def test_thirteen_people_and_more(self):
        self.assert_is_placement(place([0] * 13), False)
        self.assert_is_placement(place(list(range(8)) + [0] * 5), False, (8, ()))
        letters = "abcdefghijklmnopqrstuvwxyz"
        self.assert_is_placement(tuple((letter, 0) for letter in letters), False)

    def test_every_case(self):
        for house, placement in CASES:
            self.assert_is_placement(placement, True, house)

    def test_every_room_of_every_house_and_the_rooms_beyond(self):
        for house in HOUSES:
            for room in range(-2, 11):
                self.assert_is_placement((("ann", room),), 0 <= room < house[0], house)
                self.assert_is_placement((("ann", 0), ("ben", room)), 0 <= room < house[0], house)

    def test_names_of_one_to_eight_letters(self):
        for length in range(1, 9):
            for letter in "amz":
                self.assert_is_placement(((letter * length, 0),), True)
        self.assert_is_placement((("a", 2), ("ab", 1), ("abcdefgh", 0), ("b", 1)), True)

    def test_other_names(self):
        for name in NOT_NAMES:
            self.assert_is_placement(((name, 0),), False)
            self.assert_is_placement((("a", 1), (name, 0)), False)
            self.assert_is_placement(((name, 0), ("zzz", 1)), False)

    def test_other_rooms(self):
        for room in NOT_ROOMS:
            self.assert_is_placement((("ann", room),), False)
            self.assert_is_placement((("ann", 0), ("ben", room)), False)
            self.assert_is_placement((("ann", room), ("ben", 0)), False)

    def test_person_duplicated(self):
        for at in range(11):
            self.assert_is_placement(TWELVE[:at + 1] + TWELVE[at:11], False)

    def test_two_rooms_for_one_name(self):
        # These pairs are ascending: only the names show the fault.
        self.assert_is_placement((("ann", 0), ("ann", 1)), False)
        self.assert_is_placement((("ann", 0), ("ben", 1), ("ben", 2), ("cid", 0)), False)
        self.assert_is_placement((("ann", 1), ("ann", 0)), False)

    def test_wrong_order(self):
        for at in range(11):
            swapped = TWELVE[:at] + (TWELVE[at + 1], TWELVE[at]) + TWELVE[at + 2:]
            self.assert_is_placement(swapped, False)
        self.assert_is_placement(TWELVE[::-1], False)
        self.assert_is_placement((("ben", 0), ("ann", 1)), False)
        self.assert_is_placement((("ab", 0), ("a", 1)), False)
        self.assert_is_placement((("ann", 0), ("cid", 0), ("ben", 0)), False)

    def test_list_instead_of_a_tuple(self):
        self.assert_is_placement([], False)
        for at, (name, room) in enumerate(TWELVE):
            for pair in ([name, room], ([name], room), (name, [room]), [[name], [room]]):
                self.assert_is_placement(TWELVE[:at] + (pair,) + TWELVE[at + 1:], False)
            self.assert_is_placement(list(TWELVE[:at + 1]), False)
            self.assert_is_placement([list(pair) for pair in TWELVE[:at + 1]], False)

    def test_other_values_instead_of_a_pair(self):
        for value in NOT_PAIRS:
            self.assert_is_placement((value,), False)
            self.assert_is_placement((("a", 0), value), False)
            self.assert_is_placement((value, ("zzz", 0)), False)

    def test_other_values(self):
        for value in NO_PLACEMENTS + tuple(other for other in OTHER_VALUES if other not in ((), (("ann", 0),))):
            self.assert_is_placement(value, False)


class IsTargetTest(SupportCase):
    def assert_is_target(self, placement, value, expected, house=HOUSE):
        self.assertIs(self.call(is_target, house, placement, value), expected, (house, placement, repr(value)[:200]))

    def test_none_to_twelve_people(self):
        for people in range(13):
            placement = TWELVE[:people]
            self.assert_is_target(placement, placement, True)
            self.assert_is_target(placement, place([1] * people), True)
            self.assert_is_target(placement, place([2, 1, 0] * 4)[:people], True)

    def test_empty_rooms_and_rooms_without_a_path_may_be_wanted(self):
        for house in LARGE_HOUSES:
            for room in range(house[0]):
                self.assert_is_target((("ann", 0), ("ben", 1)), (("ann", room), ("ben", house[0] - 1)), True, house)

    def test_a_person_more(self):
        for people in range(12):
            self.assert_is_target(TWELVE[:people], TWELVE[:people + 1], False)
        self.assert_is_target((("ann", 0), ("cid", 1)), (("ann", 0), ("ben", 1), ("cid", 1)), False)
        self.assert_is_target(TWELVE, place([0] * 13), False)
        self.assert_is_target((), (("ann", 0),), False)

    def test_a_person_fewer(self):
        for at in range(12):
            self.assert_is_target(TWELVE, TWELVE[:at] + TWELVE[at + 1:], False)
        self.assert_is_target((("ann", 0),), (), False)

    def test_other_names(self):
        for at in range(12):
            self.assert_is_target(TWELVE, TWELVE[:at] + ((TWELVE[at][0] + "x", 0),) + TWELVE[at + 1:], False)
        self.assert_is_target((("ann", 0), ("ben", 1)), (("ann", 0), ("cid", 1)), False)

    def test_the_right_names_in_what_is_no_placement(self):
        placement = (("ann", 0), ("ben", 1))
        for value in (
            (("ben", 1), ("ann", 0)), (("ann", 0), ("ann", 1), ("ben", 1)), (("ann", 0), ("ben", 1), ("ben", 1)),
            [("ann", 0), ("ben", 1)], (["ann", 0], ("ben", 1)), (("ann", 0), ["ben", 1]), (("ann", 0, 0), ("ben", 1)),
            (("ann",), ("ben",)), ("ann", "ben"), {"ann": 0, "ben": 1}, (("ann", 0), {"ben": 1}), (("ann", 0), None),
            ((("ann", 0), ("ben", 1)),),
        ):
            self.assert_is_target(placement, value, False)
        for room in NOT_ROOMS:
            self.assert_is_target(placement, (("ann", room), ("ben", 1)), False)
            self.assert_is_target(placement, (("ann", 0), ("ben", room)), False)

    def test_other_values(self):
        for value in NO_PLACEMENTS + OTHER_VALUES:
            self.assert_is_target((("ann", 0), ("ben", 1)), value, False)
            self.assert_is_target((), value, value == ())


class RoomOfTest(SupportCase):
    def test_every_person(self):
        for house, placement in CASES:
            for name, room in placement:
                self.assert_same(self.call(room_of, placement, name), room)

    def test_names_of_nobody(self):
        for people in range(13):
            for name in NAMES[people:] + ("a", "annann", "z"):
                self.assert_raises(UnknownPerson, name, room_of, TWELVE[:people], name)

    def test_values_that_are_no_name(self):
        for placement in ((), (("ann", 0),), TWELVE):
            for value in OTHER_VALUES + NOT_NAMES + NO_PLACEMENTS:
                if value != "ann":
                    self.assert_raises(UnknownPerson, value, room_of, placement, value)


class CountingTest(SupportCase):
    def test_people_in_every_room(self):
        for house, placement in CASES:
            for room in range(house[0]):
                expected = [name for name in NAMES if dict(placement).get(name, -1) == room]
                self.assert_same(self.call(people_in, placement, room), tuple(expected), (placement, room))

    def test_room_counts(self):
        for house, placement in CASES:
            rooms = [room for name, room in placement]
            expected = tuple(rooms.count(room) for room in range(house[0]))
            self.assert_same(self.call(room_counts, house, placement), expected, (house, placement))

    def test_empty_rooms(self):
        for house, placement in CASES:
            expected = tuple(sorted(set(range(house[0])) - {room for name, room in placement}))
            self.assert_same(self.call(empty_rooms, house, placement), expected, (house, placement))

    def test_no_people(self):
        for house in HOUSES:
            self.assertEqual(room_counts(house, ()), (0,) * house[0])
            self.assertEqual(empty_rooms(house, ()), tuple(range(house[0])))
            for room in range(house[0]):
                self.assertEqual(people_in((), room), ())

    def test_all_people_in_one_room(self):
        self.assertEqual(people_in(place([1] * 12), 1), NAMES[:12])
        self.assertEqual(room_counts(HOUSE, place([1] * 12)), (0, 12, 0))
        self.assertEqual(empty_rooms(HOUSE, place([1] * 12)), (0, 2))


if __name__ == "__main__":
    unittest.main()
