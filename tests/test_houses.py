"""Houses, paths and components, checked against independent definitions."""

import copy
import itertools
import unittest

from fromwithin import houses
from fromwithin.houses import components, is_house, is_room, neighbors, path_between, rooms_beyond
from support import HOUSES, LARGE_HOUSES, OTHER_VALUES, SupportCase
from support import all_doors, connected, door_choices, forms_cycle, subsets

PATH_OF_4 = (4, ((0, 1), (1, 2), (2, 3)))


class HouseTestCase(unittest.TestCase):
    def assert_rooms(self, value):
        self.assertIs(type(value), tuple)
        for room in value:
            self.assertIs(type(room), int)


class InterfaceTest(SupportCase):
    def test_functions_are_defined_here_with_these_parameters(self):
        self.assert_interface(houses, {
            "is_house": ("value",),
            "neighbors": ("house", "room"),
            "path_between": ("house", "a", "b"),
            "rooms_beyond": ("house", "room", "neighbor"),
            "components": ("house", "rooms"),
        })


class IsHouseTest(unittest.TestCase):
    def assert_is_house(self, value, expected):
        before = copy.deepcopy(value)
        for time in ("first call", "second call"):
            with self.subTest(time, value=repr(value)[:200]):
                self.assertIs(is_house(value), expected)
        self.assertEqual(repr(value), repr(before))

    def test_every_choice_of_doors_of_small_houses(self):
        for rooms, forests in ((1, 1), (2, 2), (3, 7), (4, 38), (5, 291)):
            accepted = 0
            for doors in door_choices(rooms):
                found = is_house((rooms, doors))
                self.assertIs(found, not forms_cycle(doors), (rooms, doors))
                accepted += found
            self.assertEqual(accepted, forests)

    def test_one_to_eight_rooms(self):
        for rooms in range(1, 9):
            self.assert_is_house((rooms, ()), True)
            self.assert_is_house((rooms, tuple((a, a + 1) for a in range(rooms - 1))), True)
            self.assert_is_house((rooms, tuple((0, b) for b in range(1, rooms))), True)

    def test_large_houses_and_each_door_removed(self):
        for rooms, doors in LARGE_HOUSES:
            self.assert_is_house((rooms, doors), True)
            for at in range(len(doors)):
                self.assert_is_house((rooms, doors[:at] + doors[at + 1:]), True)

    def test_each_further_door_of_large_houses(self):
        for rooms, doors in LARGE_HOUSES:
            for door in all_doors(rooms):
                if door not in doors:
                    more = tuple(sorted(doors + (door,)))
                    self.assert_is_house((rooms, more), not connected(doors, *door))

    def test_numbers_of_rooms_out_of_range(self):
        for rooms in (9, 10, 0, -1, -8, 10 ** 59, -(10 ** 59)):
            self.assert_is_house((rooms, ()), False)
            self.assert_is_house((rooms, ((0, 1),)), False)

    def test_door_duplicated(self):
        for rooms, doors in HOUSES:
            for at in range(len(doors)):
                self.assert_is_house((rooms, doors[:at + 1] + doors[at:]), False)

    def test_door_reversed(self):
        for rooms, doors in HOUSES:
            for at, (a, b) in enumerate(doors):
                self.assert_is_house((rooms, doors[:at] + ((b, a),) + doors[at + 1:]), False)

    def test_doors_out_of_order(self):
        for rooms, doors in LARGE_HOUSES:
            for at in range(len(doors) - 1):
                swapped = doors[:at] + (doors[at + 1], doors[at]) + doors[at + 2:]
                self.assert_is_house((rooms, swapped), False)
        self.assert_is_house((4, ((1, 2), (2, 3), (0, 1))), False)

    def test_door_to_a_missing_room(self):
        for door in ((0, 4), (3, 4), (4, 5), (-1, 0), (-2, -1), (0, 10 ** 59), (-(10 ** 59), 3)):
            self.assert_is_house((4, (door,)), False)
        self.assert_is_house((3, ((0, 1), (0, 3))), False)
        self.assert_is_house((1, ((0, 1),)), False)

    def test_door_from_a_room_to_itself(self):
        for room in range(3):
            self.assert_is_house((3, ((room, room),)), False)

    def test_cycles_through_all_rooms(self):
        for rooms in range(3, 9):
            ring = tuple(sorted([(a, a + 1) for a in range(rooms - 1)] + [(0, rooms - 1)]))
            self.assert_is_house((rooms, ring), False)

    def test_cycle_beside_a_room_without_doors(self):
        self.assert_is_house((4, ((0, 1), (0, 2), (1, 2))), False)
        self.assert_is_house((8, ((4, 5), (4, 6), (5, 7), (6, 7))), False)

    def test_list_instead_of_a_tuple(self):
        for rooms, doors in LARGE_HOUSES:
            self.assert_is_house([rooms, doors], False)
            self.assert_is_house((rooms, list(doors)), False)
            self.assert_is_house([rooms, [list(door) for door in doors]], False)
            for at, door in enumerate(doors):
                self.assert_is_house((rooms, doors[:at] + (list(door),) + doors[at + 1:]), False)

    def test_bool_instead_of_an_integer(self):
        self.assert_is_house((True, ()), False)
        self.assert_is_house((False, ()), False)
        self.assert_is_house((2, ((False, 1),)), False)
        self.assert_is_house((2, ((0, True),)), False)
        self.assert_is_house((2, ((False, True),)), False)
        self.assert_is_house((3, ((0, 1), (True, 2))), False)
        self.assert_is_house((2, True), False)
        self.assert_is_house((2, (False, 1)), False)

    def test_wrong_lengths(self):
        for value in (
            (), (3,), (3, (), ()), (3, ((0, 1),), None), ((0, 1), (1, 2)), ((3, ((0, 1),)),),
            (3, ((),)), (3, ((0,),)), (3, ((0, 1, 2),)), (3, ((0, 1), (1,))), (3, ((0, 1), ())), (3, (0, 1)), (3, ((),) * 2),
        ):
            self.assert_is_house(value, False)

    def test_wrong_kinds_of_parts(self):
        wrong = (None, "", "3", "ab", "01", -1, {}, {0: 1}, {"rooms": 3}, [], [0, 1], ((0, 1),), (None, None), ("0", "1"))
        for part in wrong:
            self.assert_is_house((part, ((0, 1),)), False)
            self.assert_is_house((3, (part,)), False)
            self.assert_is_house((3, ((0, 1), part)), False)
            self.assert_is_house((3, (part, (0, 1))), False)
            self.assert_is_house((3, ((0, part),)), False)
            self.assert_is_house((3, ((part, 2),)), False)
            if part != ((0, 1),):
                self.assert_is_house((3, part), False)

    def test_other_values(self):
        deep = ()
        for depth in range(19):
            deep = (deep,)
        for value in (
            None, True, False, 0, 1, 3, -3, 10 ** 59, "", "house", "(3, ())", "ab", "\n", "~" * 4000,
            [], {}, {"rooms": 3, "doors": ()}, {3: ()}, {0: 3, 1: ()}, [3, ()], [3, []], [[3, ()]], ((3, ()),),
            (None, None), ("3", ()), (3, None), (3, ""), (3, "01"), (3, {}), (3, {(0, 1): True}), ((), 3),
            deep, (3, deep), (deep, ()), (3, (deep,)), (3, ((0, deep),)), ((0, 1),) * 500, (3, ((0, 1),) * 330),
            (("ann", 0), ("ben", 1)), (0, 1, 2), ("stuck", 0, ()), ("plan", (("ann", 1),)),
        ):
            self.assert_is_house(value, False)


class IsRoomTest(unittest.TestCase):
    def test_the_rooms_of_the_house_and_no_other_values(self):
        for house in HOUSES:
            for room in range(-3, 12):
                self.assertIs(is_room(house, room), room in range(house[0]), (house, room))
            for value in OTHER_VALUES:
                self.assertIs(is_room(house, value), False, (house, value))


class NeighborsTest(HouseTestCase):
    def test_every_room(self):
        for house in HOUSES:
            before = copy.deepcopy(house)
            for room in range(house[0]):
                expected = sorted({other for door in house[1] if room in door for other in door} - {room})
                found = neighbors(house, room)
                self.assert_rooms(found)
                self.assertEqual(found, tuple(expected), (house, room))
                self.assertEqual(neighbors(house, room), found)
            self.assertEqual(house, before)

    def test_lower_and_higher_neighbors(self):
        house = (8, ((0, 3), (1, 3), (2, 3), (3, 4), (3, 5), (3, 6), (3, 7)))
        self.assertEqual(neighbors(house, 3), (0, 1, 2, 4, 5, 6, 7))
        self.assertEqual(neighbors(house, 7), (3,))
        self.assertEqual(neighbors((8, ()), 7), ())


class PathBetweenTest(HouseTestCase):
    def check_path(self, house, a, b):
        found = path_between(house, a, b)
        if not connected(house[1], a, b):
            self.assertIsNone(found, (house, a, b))
            return
        # There is at most one path, so these properties leave only one value.
        self.assert_rooms(found)
        self.assertEqual((found[0], found[-1]), (a, b), house)
        self.assertEqual(len(set(found)), len(found), (house, a, b))
        for one, other in zip(found, found[1:]):
            self.assertIn((min(one, other), max(one, other)), house[1])
        self.assertEqual(path_between(house, b, a), found[::-1])
        self.assertEqual(path_between(house, a, b), found)

    def test_every_pair_of_rooms(self):
        for house in HOUSES:
            before = copy.deepcopy(house)
            for a, b in itertools.product(range(house[0]), repeat=2):
                self.check_path(house, a, b)
            self.assertEqual(house, before)

    def test_same_room(self):
        for house in HOUSES:
            for room in range(house[0]):
                self.assertEqual(path_between(house, room, room), (room,))

    def test_long_ways(self):
        house = (8, ((0, 7), (1, 6), (1, 7), (2, 5), (2, 6), (3, 4), (3, 5)))
        self.assertEqual(path_between(house, 0, 4), (0, 7, 1, 6, 2, 5, 3, 4))
        self.assertEqual(path_between(house, 4, 0), (4, 3, 5, 2, 6, 1, 7, 0))
        self.assertEqual(path_between(house, 6, 5), (6, 2, 5))

    def test_no_path(self):
        self.assertIsNone(path_between((2, ()), 0, 1))
        self.assertIsNone(path_between((8, ((0, 4), (1, 5), (2, 4), (3, 5), (6, 7))), 2, 3))


class RoomsBeyondTest(HouseTestCase):
    def test_every_door_in_both_directions(self):
        for house in HOUSES:
            before = copy.deepcopy(house)
            for a, b in house[1]:
                for room, neighbor in ((a, b), (b, a)):
                    doors = [door for door in house[1] if room not in door]
                    expected = [other for other in range(house[0]) if connected(doors, neighbor, other)]
                    found = rooms_beyond(house, room, neighbor)
                    self.assert_rooms(found)
                    self.assertEqual(found, tuple(expected), (house, room, neighbor))
                    self.assertEqual(rooms_beyond(house, room, neighbor), found)
            self.assertEqual(house, before)

    def test_both_sides_of_doors(self):
        house = (8, ((0, 1), (0, 2), (1, 3), (1, 4), (2, 5), (2, 6), (6, 7)))
        self.assertEqual(rooms_beyond(house, 0, 1), (1, 3, 4))
        self.assertEqual(rooms_beyond(house, 1, 0), (0, 2, 5, 6, 7))
        self.assertEqual(rooms_beyond(house, 6, 7), (7,))
        self.assertEqual(rooms_beyond(house, 7, 6), (0, 1, 2, 3, 4, 5, 6))
        self.assertEqual(rooms_beyond((4, ((0, 3),)), 0, 3), (3,))


class ComponentsTest(HouseTestCase):
    def check_components(self, house, rooms):
        found = components(house, rooms)
        self.assertIs(type(found), tuple)
        for component in found:
            self.assert_rooms(component)
        inner = [door for door in house[1] if set(door) <= set(rooms)]
        groups = {tuple(other for other in rooms if connected(inner, room, other)) for room in rooms}
        self.assertEqual(found, tuple(sorted(groups)), (house, rooms))
        self.assertEqual(components(house, rooms), found)

    def test_every_set_of_rooms(self):
        for house in HOUSES:
            before = copy.deepcopy(house)
            for rooms in subsets(house[0]):
                self.check_components(house, rooms)
            self.assertEqual(house, before)

    def test_no_rooms(self):
        for house in HOUSES:
            self.assertEqual(components(house, ()), ())

    def test_all_rooms(self):
        self.assertEqual(components(PATH_OF_4, (0, 1, 2, 3)), ((0, 1, 2, 3),))
        self.assertEqual(components((3, ()), (0, 1, 2)), ((0,), (1,), (2,)))

    def test_order_inside_and_between_components(self):
        house = (8, ((0, 4), (1, 5), (2, 4), (3, 5), (6, 7)))
        self.assertEqual(components(house, (0, 1, 2, 3, 4, 5, 6, 7)), ((0, 2, 4), (1, 3, 5), (6, 7)))
        self.assertEqual(components(house, (0, 1, 2, 3, 7)), ((0,), (1,), (2,), (3,), (7,)))
        twisted = (8, ((0, 7), (1, 6), (1, 7), (2, 5), (2, 6), (3, 4), (3, 5)))
        self.assertEqual(components(twisted, (0, 1, 3, 4, 5, 7)), ((0, 1, 7), (3, 4, 5)))


if __name__ == "__main__":
    unittest.main()
