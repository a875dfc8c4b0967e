"""Moves and sequences of moves, checked against the rule of the house alone."""

import unittest

from fromwithin import moves
from fromwithin.errors import EmptyRoom, InvalidMoves, InvalidRoom, NotAdjacent, OtherRegion, UnknownPerson
from fromwithin.moves import apply_moves, direct_moves, legal_moves, move_person, reaches_target
from fromwithin.placements import is_placement
from support import CASES, HOUSES, LARGE_CASES, LARGE_HOUSES, OTHER_VALUES, SMALL_CASES, SupportCase
from support import are_adjacent, connected, own_moves, own_region, own_regions, own_step, place, reachable, walk

PATH_OF_3 = (3, ((0, 1), (1, 2)))

# Loose and tight ones, with every tenth of the small ones, for the slower tests.
SOME_CASES = SMALL_CASES[::10] + LARGE_CASES

NO_TUPLES = tuple(value for value in OTHER_VALUES if not isinstance(value, tuple)) + ([("ann", 1)], {("ann", 1): True})


class InterfaceTest(SupportCase):
    def test_functions_are_defined_here_with_these_parameters(self):
        self.assert_interface(moves, {
            "move_person": ("house", "placement", "name", "room"),
            "legal_moves": ("house", "placement"),
            "apply_moves": ("house", "placement", "moves"),
            "reaches_target": ("house", "placement", "target", "value"),
            "direct_moves": ("house", "placement", "name", "room"),
        })


class MovePersonTest(SupportCase):
    def test_every_person_with_every_room_and_the_rooms_beyond(self):
        for house, placement in CASES:
            occupied = [room for name, room in placement]
            for name, here in placement:
                for room in range(-2, house[0] + 2):
                    if not 0 <= room < house[0]:
                        self.assert_raises(InvalidRoom, room, move_person, house, placement, name, room)
                    elif not are_adjacent(house, here, room):
                        self.assert_raises(NotAdjacent, room, move_person, house, placement, name, room)
                    elif room not in occupied:
                        self.assert_raises(EmptyRoom, room, move_person, house, placement, name, room)
                    else:
                        found = self.call(move_person, house, placement, name, room)
                        self.assert_same(found, own_step(placement, (name, room)), (house, placement, name, room))

    def test_the_placement_stays_in_order(self):
        house = LARGE_HOUSES[2]
        placement = place([3, 3, 0, 1, 2, 4, 5, 6, 7, 3, 3, 0])
        for name, room in own_moves(house, placement):
            found = move_person(house, placement, name, room)
            self.assertIs(is_placement(house, found), True, found)
        self.assertEqual(move_person(PATH_OF_3, place([2, 1, 0]), "ann", 1), (("ann", 1), ("ben", 1), ("cid", 0)))
        self.assertEqual(move_person(PATH_OF_3, place([0, 1, 1]), "cid", 0), (("ann", 0), ("ben", 1), ("cid", 0)))

    def test_other_values_as_name(self):
        for placement in ((), place([0]), place([0, 1, 2])):
            for name in OTHER_VALUES:
                for room in (0, 1, 2):
                    self.assert_raises(UnknownPerson, name, move_person, PATH_OF_3, placement, name, room)

    def test_other_values_as_room(self):
        for room in OTHER_VALUES:
            for name in ("ann", "ben", "cid"):
                self.assert_raises(InvalidRoom, room, move_person, PATH_OF_3, place([0, 1, 2]), name, room)

    def test_both_wrong(self):
        for name in OTHER_VALUES:
            for room in OTHER_VALUES:
                self.assert_raises(UnknownPerson, name, move_person, PATH_OF_3, place([0, 1, 2]), name, room)

    def test_bools_are_no_rooms(self):
        # Room 1 is adjacent to ann's and room 0 to ben's, so the integers would be moves.
        self.assert_raises(InvalidRoom, True, move_person, PATH_OF_3, place([0, 1]), "ann", True)
        self.assert_raises(InvalidRoom, False, move_person, PATH_OF_3, place([0, 1]), "ben", False)

    def test_negative_numbers_do_not_count_from_the_end(self):
        for room in (-1, -2, -3):
            self.assert_raises(InvalidRoom, room, move_person, PATH_OF_3, place([0, 1, 2]), "ben", room)

    def test_the_own_room_is_not_adjacent(self):
        for people in (1, 2, 3):
            self.assert_raises(NotAdjacent, 1, move_person, PATH_OF_3, place([1] * people), "ann", 1)

    def test_a_room_that_is_neither_adjacent_nor_occupied_is_not_adjacent(self):
        self.assert_raises(NotAdjacent, 2, move_person, PATH_OF_3, place([0, 1]), "ann", 2)
        self.assert_raises(NotAdjacent, 1, move_person, (2, ()), place([0, 0]), "ann", 1)


class LegalMovesTest(SupportCase):
    def test_every_case(self):
        for house, placement in CASES:
            found = self.call(legal_moves, house, placement)
            self.assert_same(found, tuple(sorted(own_moves(house, placement))), (house, placement))

    def test_exactly_the_moves_that_move_person_accepts(self):
        for house, placement in SOME_CASES:
            accepted = []
            for name, here in placement:
                for room in range(house[0]):
                    try:
                        move_person(house, placement, name, room)
                    except (NotAdjacent, EmptyRoom):
                        continue
                    accepted.append((name, room))
            self.assertEqual(legal_moves(house, placement), tuple(accepted), (house, placement))

    def test_no_people(self):
        for house in HOUSES:
            self.assertEqual(legal_moves(house, ()), ())

    def test_nobody_to_go_to(self):
        self.assertEqual(legal_moves(PATH_OF_3, place([0, 0, 0])), ())
        self.assertEqual(legal_moves(PATH_OF_3, place([0, 2])), ())

    def test_moves_to_several_rooms_are_ascending(self):
        found = legal_moves(LARGE_HOUSES[2], place([3, 7, 0, 5]))
        self.assertEqual(found, (("ann", 0), ("ann", 5), ("ann", 7), ("ben", 3), ("cid", 3), ("dan", 3)))


class ApplyMovesTest(SupportCase):
    def test_no_moves(self):
        for house, placement in CASES:
            self.assert_same(self.call(apply_moves, house, placement, ()), placement)

    def test_walks_whole_and_cut_in_two(self):
        for seed, (house, placement) in enumerate(SOME_CASES):
            steps, places = walk(house, placement, 30, seed)
            self.assert_same(self.call(apply_moves, house, placement, steps), places[-1], (house, placement, steps))
            for at in range(0, len(steps), 7):
                self.assert_same(apply_moves(house, placement, steps[:at]), places[at])
                self.assert_same(apply_moves(house, places[at], steps[at:]), places[-1])

    def test_long_sequences(self):
        house, placement = (2, ((0, 1),)), place([0, 0, 1])
        steps = (("ann", 1), ("ann", 0)) * 3000
        self.assertEqual(apply_moves(house, placement, steps), placement)
        self.assertEqual(apply_moves(house, placement, steps + (("ben", 1),)), place([0, 1, 1]))
        self.assert_raises(InvalidMoves, 6000, apply_moves, house, placement, steps + (("cid", 2),))

    def test_an_element_replaced(self):
        for seed, (house, placement) in enumerate(SOME_CASES[::3]):
            steps, places = walk(house, placement, 6, seed)
            for at, (name, room) in enumerate(steps):
                here = dict(places[at])[name]
                far = [other for other in range(house[0]) if not are_adjacent(house, here, other)]
                empty = set(range(house[0])) - {other for person, other in places[at]}
                wrong = [[name, room], (name,), (name, room, room), (name, room, None), ((name, room),), (room, name)]
                wrong += [(name, other) for other in [*far, *empty, -1, house[0], True, None, str(room), [room]]]
                wrong += [(other, room) for other in ("zoe", "", None, 0, [name], (name,), name + " ", {name: room})]
                for value in wrong:
                    changed = steps[:at] + (value,) + steps[at + 1:]
                    self.assert_raises(InvalidMoves, at, apply_moves, house, placement, changed)

    def test_the_first_of_several_wrong_elements(self):
        placement = place([0, 1, 2])
        self.assert_raises(InvalidMoves, 0, apply_moves, PATH_OF_3, placement, (None, None))
        self.assert_raises(InvalidMoves, 1, apply_moves, PATH_OF_3, placement, (("ann", 1), ("zoe", 1), ["ann", 2]))
        self.assert_raises(InvalidMoves, 2, apply_moves, PATH_OF_3, placement, (("ann", 1), ("ann", 2), ("ann", 0), 5))

    def test_a_room_that_is_emptied_on_the_way(self):
        placement = place([0, 1, 2])
        self.assertEqual(apply_moves(PATH_OF_3, placement, (("ben", 0),)), place([0, 0, 2]))
        for name, at in (("ann", 1), ("ben", 1), ("cid", 1)):
            self.assert_raises(InvalidMoves, at, apply_moves, PATH_OF_3, placement, (("ben", 0), (name, 1)))

    def test_other_values_as_an_element(self):
        for value in OTHER_VALUES:
            if value != ("ann", 0):
                self.assert_raises(InvalidMoves, 0, apply_moves, PATH_OF_3, place([0, 1, 2]), (value,))
                self.assert_raises(InvalidMoves, 1, apply_moves, PATH_OF_3, place([0, 1, 2]), (("ann", 1), value))

    def test_values_that_are_no_tuple(self):
        for value in NO_TUPLES:
            self.assert_raises(InvalidMoves, None, apply_moves, PATH_OF_3, place([0, 1, 2]), value)
            self.assert_raises(InvalidMoves, None, apply_moves, PATH_OF_3, (), value)

    def test_a_move_instead_of_a_sequence(self):
        self.assert_raises(InvalidMoves, 0, apply_moves, PATH_OF_3, place([0, 1, 2]), ("ann", 1))

    def test_no_people(self):
        for house in HOUSES:
            self.assertEqual(apply_moves(house, (), ()), ())
            self.assert_raises(InvalidMoves, 0, apply_moves, house, (), (("ann", 0),))


class ReachesTargetTest(SupportCase):
    def assert_reaches(self, expected, *arguments):
        self.assertIs(self.call(reaches_target, *arguments), expected, arguments)

    def test_walks_reach_their_end_and_nothing_else(self):
        for seed, (house, placement) in enumerate(SOME_CASES):
            steps, places = walk(house, placement, 12, seed)
            for target in {*places, place([0] * len(placement)), place([house[0] - 1] * len(placement))}:
                self.assert_reaches(target == places[-1], house, placement, target, steps)

    def test_no_moves_reach_only_the_placement_itself(self):
        self.assert_reaches(True, PATH_OF_3, place([0, 1]), place([0, 1]), ())
        self.assert_reaches(False, PATH_OF_3, place([0, 1]), place([1, 1]), ())
        self.assert_reaches(True, PATH_OF_3, (), (), ())

    def test_passing_through_the_target_is_not_enough(self):
        house, placement = (2, ((0, 1),)), place([0, 0, 1])
        self.assert_reaches(True, house, placement, place([1, 0, 1]), (("ann", 1),))
        self.assert_reaches(False, house, placement, place([1, 0, 1]), (("ann", 1), ("ann", 0)))

    def test_impossible_moves_reach_nothing(self):
        # The wrong moves would end in the target if they were done.
        jump, into_empty = (("ann", 2),), (("ben", 2), ("ann", 1), ("ann", 2))
        for steps in (jump, into_empty, (("ann", 1), ("ann", 2), ("ben", 2), ("ben", 1))):
            for target in (place([2, 1]), place([2, 2]), place([1, 1])):
                self.assert_reaches(False, PATH_OF_3, place([0, 1]), target, steps)

    def test_a_wrong_move_at_the_end(self):
        for value in (None, ["ann", 1], ("ann", 1, 1), ("zoe", 1), ("ann", True), ("ann", 1)):
            self.assert_reaches(False, PATH_OF_3, place([0, 1]), place([1, 1]), (("ann", 1), value))

    def test_other_values(self):
        for value in NO_TUPLES + OTHER_VALUES:
            self.assert_reaches(value == (), PATH_OF_3, place([0, 1]), place([0, 1]), value)
            self.assert_reaches(False, PATH_OF_3, place([0, 1]), place([1, 1]), value)

    def test_long_sequences(self):
        house, placement = (2, ((0, 1),)), place([0, 0, 1])
        steps = (("ann", 1), ("ann", 0)) * 3000
        self.assertIs(reaches_target(house, placement, placement, steps), True)
        self.assertIs(reaches_target(house, placement, placement, steps + (("ann", 1),)), False)


class DirectMovesTest(SupportCase):
    def check_direct_moves(self, house, placement, name, room):
        here = dict(placement)[name]
        found = self.call(direct_moves, house, placement, name, room)
        self.assertEqual(apply_moves(house, placement, found), own_step(placement, (name, room)))
        self.assertEqual({person for person, step in found}, {name} if room != here else set())
        # On the only path no room comes twice, so these properties leave only one value.
        stops = [here] + [step for person, step in found]
        self.assertEqual(len(set(stops)), len(stops))
        self.assert_same(found, tuple((name, stop) for stop in stops[1:]))

    def test_every_person_with_every_room(self):
        for house, placement in CASES:
            for name, here in placement:
                region = own_region(house, placement, here)
                for room in range(house[0]):
                    if room in region:
                        self.check_direct_moves(house, placement, name, room)
                    else:
                        self.assert_raises(OtherRegion, room, direct_moves, house, placement, name, room)

    def test_the_own_room(self):
        for house, placement in CASES:
            for name, here in placement:
                self.assert_same(direct_moves(house, placement, name, here), ())

    def test_along_long_paths(self):
        house = LARGE_HOUSES[3]
        expected = tuple(("hal", room) for room in (0, 7, 1, 6, 2, 5, 3, 4)[1:])
        placement = place([7, 1, 6, 2, 5, 3, 4, 0])
        self.assertEqual(direct_moves(house, placement, "hal", 4), expected)
        self.assertEqual(direct_moves(house, placement, "gus", 1), tuple(("gus", room) for room in (3, 5, 2, 6, 1)))

    def test_a_path_through_an_empty_room(self):
        self.assert_raises(OtherRegion, 2, direct_moves, PATH_OF_3, place([0, 2]), "ann", 2)
        self.assert_raises(OtherRegion, 1, direct_moves, PATH_OF_3, place([0, 2]), "ann", 1)

    def test_other_values_as_name_and_as_room(self):
        placement = place([0, 1, 2])
        for value in OTHER_VALUES:
            for room in (0, 1, 2, 3, True, None):
                self.assert_raises(UnknownPerson, value, direct_moves, PATH_OF_3, placement, value, room)
                self.assert_raises(UnknownPerson, value, direct_moves, PATH_OF_3, (), value, room)
            for name in ("ann", "ben", "cid"):
                self.assert_raises(InvalidRoom, value, direct_moves, PATH_OF_3, placement, name, value)
        for name in OTHER_VALUES:
            for room in OTHER_VALUES:
                self.assert_raises(UnknownPerson, name, direct_moves, PATH_OF_3, placement, name, room)

    def test_numbers_beyond_the_rooms(self):
        for house in HOUSES:
            for room in (-1, -house[0], house[0], house[0] + 1):
                self.assert_raises(InvalidRoom, room, direct_moves, house, place([0]), "ann", room)


class WhatNeverChangesTest(SupportCase):
    def check_step(self, house, before, name, room):
        after = move_person(house, before, name, room)
        occupied, left = ({place for person, place in state} for state in (before, after))
        self.assertLessEqual(left, occupied)
        for region in own_regions(house, after):
            self.assertLessEqual(set(region), set(own_region(house, before, region[0])))
        for person, there in after:
            self.assertIn(there, own_region(house, before, dict(before)[person]))
        here = dict(before)[name]
        if here in left:
            self.assertEqual(move_person(house, after, name, here), before)
        else:
            # Nobody can ever enter the room again.
            self.assert_raises(EmptyRoom, here, move_person, house, after, name, here)
        return after

    def test_every_move_of_every_reachable_placement(self):
        for house, placement in SMALL_CASES[::7]:
            for before in sorted(reachable(house, placement)):
                for name, room in legal_moves(house, before):
                    self.check_step(house, before, name, room)

    def test_long_walks(self):
        for seed, (house, placement) in enumerate(LARGE_CASES):
            here = placement
            for name, room in walk(house, placement, 40, seed)[0]:
                here = self.check_step(house, here, name, room)
            occupied = {room for name, room in placement}
            self.assertLessEqual({room for name, room in here}, occupied)
            for name, room in here:
                self.assertIn(room, own_region(house, placement, dict(placement)[name]))

    def test_a_person_reaches_every_room_of_the_region_while_all_others_stay(self):
        for house, placement in LARGE_CASES:
            for name, here in placement:
                for room in own_region(house, placement, here):
                    doors = [door for door in house[1] if not connected(set(house[1]) - {door}, here, room)]
                    self.assertEqual(len(direct_moves(house, placement, name, room)), len(doors))


if __name__ == "__main__":
    unittest.main()
