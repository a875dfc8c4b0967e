"""Who is outside, who passes a room, free rooms, and pieces, against definitions and a search over all moves."""

import itertools
import unittest

from fromwithin import tight
from fromwithin.errors import UnknownPerson
from fromwithin.tight import free_rooms, is_solvable, next_toward_target, people_outside, people_passing
from support import CASES, HOUSES, LARGE_CASES, LARGE_HOUSES, NAMES, OTHER_VALUES, SMALL_CASES, SupportCase
from support import are_adjacent, between, connected, connected_houses, own_moves, own_region, own_regions, own_step
from support import place, reachable, subsets, targets_for

PATH_OF_3 = (3, ((0, 1), (1, 2)))
PATH_OF_5 = (5, ((0, 1), (1, 2), (2, 3), (3, 4)))

# Every fourth of the small ones, to keep the tests short.
SOME_CASES = SMALL_CASES[::4] + LARGE_CASES


def with_targets(cases):
    for house, placement in cases:
        for target in targets_for(house, placement):
            yield house, placement, target


def own_free_rooms(house, placement, target, rooms):
    """The free rooms by the definition, for the people in these rooms alone."""
    wanted = dict(target)
    needed = set()
    for name, here in placement:
        if here in rooms:
            needed |= {wanted[name]} | (between(house, here, wanted[name]) or set())
    return tuple(room for room in rooms if room not in needed)


def is_piece(house, placement, target, rooms):
    """Whether rooms, of a tight region, are connected and hold the target rooms of all people in them."""
    inner = [door for door in house[1] if set(door) <= set(rooms)]
    if not rooms or not all(connected(inner, rooms[0], room) for room in rooms):
        return False
    return all(dict(target)[name] in rooms for name, here in placement if here in rooms)


def alone(house, placement, rooms):
    """The house and the placement with only the doors and the people of these rooms."""
    inner = tuple(door for door in house[1] if set(door) <= set(rooms))
    return (house[0], inner), tuple(pair for pair in placement if pair[1] in rooms)


class InterfaceTest(SupportCase):
    def test_functions_are_defined_here_with_these_parameters(self):
        self.assert_interface(tight, {
            "people_outside": ("house", "placement", "target"),
            "people_passing": ("house", "placement", "target", "room"),
            "next_toward_target": ("house", "placement", "target", "name"),
            "free_rooms": ("house", "placement", "target", "region"),
            "is_solvable": ("house", "placement", "target", "rooms"),
        })


class PeopleOutsideTest(SupportCase):
    def test_every_case(self):
        inside = outside = 0
        for house, placement, target in with_targets(CASES):
            expected = tuple(
                name for name, here in placement if dict(target)[name] not in own_region(house, placement, here))
            self.assert_same(self.call(people_outside, house, placement, target), expected, (house, placement, target))
            inside, outside = inside + len(placement) - len(expected), outside + len(expected)
        self.assertGreater(min(inside, outside), 1000)

    def test_empty_target_rooms(self):
        self.assertEqual(people_outside(PATH_OF_3, place([0, 0]), place([0, 1])), ("ben",))
        self.assertEqual(people_outside(PATH_OF_3, place([0, 0, 0]), place([1, 2, 0])), ("ann", "ben"))

    def test_target_rooms_in_another_region(self):
        self.assertEqual(people_outside(PATH_OF_3, place([0, 2]), place([2, 0])), ("ann", "ben"))
        self.assertEqual(people_outside((4, ((0, 1), (2, 3))), place([0, 1, 2, 3]), place([1, 2, 3, 3])), ("ben",))

    def test_nobody(self):
        for house in HOUSES:
            self.assertEqual(people_outside(house, (), ()), ())
            self.assertEqual(people_outside(house, place(range(house[0])), place(range(house[0]))), ())


class PassingTest(SupportCase):
    def test_people_passing_every_room(self):
        for house, placement, target in with_targets(SOME_CASES):
            passed = {name: between(house, here, dict(target)[name]) or set() for name, here in placement}
            for room in range(house[0]):
                expected = tuple(name for name in NAMES if room in passed.get(name, ()))
                found = self.call(people_passing, house, placement, target, room)
                self.assert_same(found, expected, (house, placement, target, room))

    def test_the_ends_of_a_path_are_not_passed(self):
        placement, target = place([0, 4, 2, 1, 3]), place([4, 0, 2, 3, 1])
        found = [people_passing(PATH_OF_5, placement, target, room) for room in range(5)]
        self.assertEqual(found, [(), ("ann", "ben"), ("ann", "ben", "dan", "eve"), ("ann", "ben"), ()])

    def test_paths_through_empty_rooms(self):
        self.assertEqual(people_passing(PATH_OF_5, place([0]), place([4]), 2), ("ann",))
        self.assertEqual(people_passing(PATH_OF_5, place([0, 0, 4]), place([1, 3, 3]), 2), ("ben",))
        self.assertEqual(next_toward_target(PATH_OF_5, place([0]), place([4]), "ann"), 1)
        self.assertEqual(next_toward_target(PATH_OF_5, place([4, 0]), place([0, 0]), "ann"), 3)

    def test_without_a_path(self):
        house = (5, ((0, 1), (1, 2), (3, 4)))
        placement, target = place([0, 3]), place([4, 2])
        for room in range(5):
            self.assertEqual(people_passing(house, placement, target, room), ())
        for name in ("ann", "ben"):
            self.assertIsNone(next_toward_target(house, placement, target, name))

    def test_nobody(self):
        for house in HOUSES:
            for room in range(house[0]):
                self.assertEqual(people_passing(house, (), (), room), ())


class NextTowardTargetTest(SupportCase):
    def test_every_person(self):
        for house, placement, target in with_targets(SOME_CASES):
            for name, here in placement:
                there = dict(target)[name]
                # The next room is the adjacent one from which the target room can be reached without coming back.
                away = [door for door in house[1] if here not in door]
                near = [room for room in range(house[0]) if are_adjacent(house, here, room)]
                steps = [room for room in near if connected(away, room, there)]
                expected = steps[0] if here != there and steps else None
                found = self.call(next_toward_target, house, placement, target, name)
                self.assert_same(found, expected, (house, placement, target, name))

    def test_at_the_target(self):
        for house in HOUSES:
            for room in range(house[0]):
                self.assertIsNone(next_toward_target(house, place([room]), place([room]), "ann"))

    def test_values_that_are_no_persons_name(self):
        for placement, target in (((), ()), (place([0, 1, 2]), place([2, 1, 0])), (place([1]), place([1]))):
            for value in OTHER_VALUES:
                self.assert_raises(UnknownPerson, value, next_toward_target, PATH_OF_3, placement, target, value)
        self.assert_raises(UnknownPerson, "ben", next_toward_target, PATH_OF_3, place([1]), place([2]), "ben")


class FreeRoomsTest(SupportCase):
    def test_every_target_of_small_connected_houses(self):
        for rooms in range(1, 5):
            placement = place(range(rooms))
            region = tuple(range(rooms))
            for house in connected_houses(rooms):
                for choice in itertools.product(range(rooms), repeat=rooms):
                    expected = own_free_rooms(house, placement, place(choice), region)
                    found = self.call(free_rooms, house, placement, place(choice), region)
                    self.assert_same(found, expected, (house, choice))

    def test_tight_regions_of_large_houses(self):
        free = 0
        for house, placement, target in with_targets(LARGE_CASES):
            rooms = [room for name, room in placement]
            for region in own_regions(house, placement):
                if all(rooms.count(room) == 1 for room in region) and is_piece(house, placement, target, region):
                    expected = own_free_rooms(house, placement, target, region)
                    self.assert_same(self.call(free_rooms, house, placement, target, region), expected)
                    free += len(expected)
        self.assertGreater(free, 20)

    def test_people_of_other_regions_do_not_count(self):
        # Eve is outside: she wants room 1, passes rooms 3 and 2, and is in another region than those who stand there.
        placement, target = place([0, 1, 2, 5, 4]), place([0, 2, 2, 5, 1])
        house = (6, PATH_OF_5[1])
        self.assertEqual(own_regions(house, placement), ((0, 1, 2), (4,), (5,)))
        self.assertEqual(free_rooms(house, placement, target, (0, 1, 2)), (1,))
        self.assertIs(is_solvable(house, placement, target, (0, 1, 2)), True)
        placement, target = place([0, 1, 2, 5, 4]), place([0, 0, 2, 5, 0])
        self.assertEqual(free_rooms(house, placement, target, (0, 1, 2)), (1,))

    def test_everybody_at_home_leaves_no_free_room(self):
        for rooms in range(1, 6):
            for house in connected_houses(rooms):
                self.assertEqual(free_rooms(house, place(range(rooms)), place(range(rooms)), tuple(range(rooms))), ())

    def test_every_first_move_of_a_plan_empties_a_free_room_toward_the_target(self):
        for house in connected_houses(4):
            start = place(range(4))
            ends = {move: reachable(house, own_step(start, move)) for move in own_moves(house, start)}
            for choice in itertools.product(range(4), repeat=4):
                target = place(choice)
                for name, room in [move for move in ends if target in ends[move]]:
                    self.assertIn(dict(start)[name], free_rooms(house, start, target, (0, 1, 2, 3)))
                    self.assertEqual(next_toward_target(house, start, target, name), room)


class IsSolvableTest(SupportCase):
    def check_all_targets(self, house):
        rooms = house[0]
        start, every_room = place(range(rooms)), tuple(range(rooms))
        ends = reachable(house, start)
        solved = 0
        for choice in itertools.product(range(rooms), repeat=rooms):
            found = is_solvable(house, start, place(choice), every_room)
            self.assertIs(found, place(choice) in ends, (house, choice))
            solved += found
        self.assertEqual(solved, len(ends))

    def test_houses_of_up_to_four_rooms(self):
        for rooms in range(1, 5):
            for house in connected_houses(rooms):
                self.check_all_targets(house)

    def test_houses_of_five_rooms(self):
        chosen = connected_houses(5)
        self.assertEqual(len(chosen), 125)
        for house in chosen[::6]:
            self.check_all_targets(house)

    def test_pieces_alone(self):
        answers = {True: 0, False: 0}
        for house in connected_houses(4):
            start = place(range(4))
            ends = {rooms: reachable(*alone(house, start, rooms)) for rooms in subsets(4)}
            for choice in itertools.product(range(4), repeat=4):
                for rooms in subsets(4):
                    if is_piece(house, start, place(choice), rooms):
                        there = tuple(pair for pair in place(choice) if NAMES.index(pair[0]) in rooms)
                        found = is_solvable(house, start, place(choice), rooms)
                        self.assertIs(found, there in ends[rooms], (house, choice, rooms))
                        answers[found] += 1
        self.assertGreater(min(answers.values()), 500)

    def test_tight_regions_beside_other_regions(self):
        answers = {True: 0, False: 0}
        for house in (PATH_OF_5, (5, ((0, 1), (0, 2), (0, 3), (3, 4))), (5, ((0, 4), (1, 3), (1, 4), (2, 4)))):
            for missing in range(5):
                start = place([room for room in range(5) if room != missing])
                ends = {region: reachable(*alone(house, start, region)) for region in own_regions(house, start)}
                for choice in itertools.product(range(5), repeat=4):
                    for region in ends:
                        if is_piece(house, start, place(choice), region):
                            names = [name for name, here in start if here in region]
                            there = tuple(pair for pair in place(choice) if pair[0] in names)
                            found = is_solvable(house, start, place(choice), region)
                            self.assertIs(found, there in ends[region], (house, start, choice, region))
                            answers[found] += 1
        self.assertGreater(min(answers.values()), 500)

    def test_arguments_do_not_change_and_results_stay(self):
        for house in connected_houses(4)[::5]:
            for choice in itertools.product(range(4), repeat=4):
                found = self.call(is_solvable, house, place(range(4)), place(choice), (0, 1, 2, 3))
                self.assertIs(type(found), bool)

    def test_names_in_another_order_than_rooms(self):
        start = place([3, 0, 2, 1])
        for house in connected_houses(4):
            ends = reachable(house, start)
            for choice in itertools.product(range(4), repeat=4):
                found = is_solvable(house, start, place(choice), (0, 1, 2, 3))
                self.assertIs(found, place(choice) in ends, (house, choice))

    def test_everybody_at_home(self):
        for house in LARGE_HOUSES:
            start = place(range(house[0]))
            for region in own_regions(house, start):
                self.assertIs(is_solvable(house, start, start, region), True)

    def test_the_far_component_must_be_solvable_and_the_near_one_need_not(self):
        # Cid leaves room 2, which nobody wants or passes. Two people who want to swap are helped only by cid.
        placement = place([0, 1, 2, 3, 4])
        every_room = (0, 1, 2, 3, 4)
        self.assertIs(is_solvable(PATH_OF_5, placement, place([1, 0, 1, 3, 4]), every_room), True)
        self.assertIs(is_solvable(PATH_OF_5, placement, place([1, 0, 3, 3, 4]), every_room), False)
        self.assertIs(is_solvable(PATH_OF_5, placement, place([1, 0, 1, 4, 3]), every_room), False)
        self.assertIs(is_solvable(PATH_OF_5, placement, place([0, 1, 3, 4, 3]), every_room), True)

    def test_eight_rooms(self):
        house = LARGE_HOUSES[1]
        every_room = tuple(range(8))
        start = place(range(8))
        # Everybody goes one room on, and the last two people share the last room.
        self.assertIs(is_solvable(house, start, place([1, 2, 3, 4, 5, 6, 7, 7]), every_room), True)
        self.assertIs(is_solvable(house, start, place([1, 0, 3, 2, 5, 4, 7, 6]), every_room), False)
        self.assertIs(is_solvable(house, start, place([7, 6, 5, 4, 3, 2, 1, 0]), every_room), False)
        self.assertIs(is_solvable(house, start, place([1, 1, 1, 3, 4, 6, 6, 6]), every_room), True)


if __name__ == "__main__":
    unittest.main()
