"""Classes of placements and reachable placements, checked against an enumeration."""

import itertools
import random
import unittest

from fromwithin import classes
from fromwithin.classes import class_size, count_reachable, mutually_reachable
from fromwithin.errors import TightRegion
from support import CASES, HOUSES, LARGE_CASES, LARGE_HOUSES, SMALL_CASES, SupportCase
from support import houses_with, own_region, own_regions, own_tight_regions, place, reachable

PATH_OF_3 = (3, ((0, 1), (1, 2)))


def enumerated_cases():
    """Small houses with up to five people, and all placements that are reachable."""
    source = random.Random(4)
    for rooms in (1, 2, 3, 4):
        for house in houses_with(rooms):
            for people in range(6):
                choice = source.choices(range(rooms), k=people)
                yield house, place(choice), reachable(house, place(choice))
            yield house, place(range(rooms)), reachable(house, place(range(rooms)))
            if rooms < 4 or len(house[1]) == 3:
                choice = [*range(rooms), source.randrange(rooms)]
                yield house, place(choice), reachable(house, place(choice))


ENUMERATED = tuple(enumerated_cases())


def is_mutual(house, one, other, ends):
    """Whether each is reachable from the other; ends are the placements reachable from the first one."""
    return other in ends and one in reachable(house, other)


class InterfaceTest(SupportCase):
    def test_functions_are_defined_here_with_these_parameters(self):
        self.assert_interface(classes, {
            "mutually_reachable": ("house", "one", "other"),
            "class_size": ("house", "placement"),
            "count_reachable": ("house", "placement"),
        })


class MutuallyReachableTest(SupportCase):
    def test_all_pairs_of_placements_of_small_houses(self):
        for house in (*houses_with(1), *houses_with(2), *houses_with(3)):
            for people in range(4):
                placements = [place(choice) for choice in itertools.product(range(house[0]), repeat=people)]
                ends = {one: reachable(house, one) for one in placements}
                for one, other in itertools.product(placements, repeat=2):
                    expected = other in ends[one] and one in ends[other]
                    self.assertIs(self.call(mutually_reachable, house, one, other), expected, (house, one, other))

    def test_pairs_of_larger_cases(self):
        source = random.Random(2)
        answers = {True: 0, False: 0}
        for house, placement, ends in ENUMERATED:
            any_placements = [place(source.choices(range(house[0]), k=len(placement))) for time in range(2)]
            for other in source.sample(sorted(ends), min(3, len(ends))) + any_placements:
                expected = is_mutual(house, placement, other, ends)
                self.assertIs(mutually_reachable(house, placement, other), expected, (house, placement, other))
                self.assertIs(mutually_reachable(house, other, placement), expected)
                answers[expected] += other != placement
        self.assertGreater(min(answers.values()), 50)

    def test_a_placement_and_itself(self):
        for house, placement in CASES:
            self.assertIs(mutually_reachable(house, placement, placement), True)

    def test_large_houses(self):
        # By the definition: the same rooms empty, the same regions, the same rooms in tight regions.
        source = random.Random(14)
        answers = {True: 0, False: 0}
        for house, placement in LARGE_CASES:
            tight = own_tight_regions(house, placement)
            for time in range(3):
                other = place([source.choice(own_region(house, placement, room)) for name, room in placement])
                for there in (other, place(source.sample([room for name, room in placement], len(placement)))):
                    same_rooms = {room for name, room in placement} == {room for name, room in there}
                    expected = same_rooms and all(
                        new in own_region(house, placement, room)
                        and (new == room or own_region(house, placement, room) not in tight)
                        for (name, room), (ignored, new) in zip(placement, there))
                    self.assertIs(mutually_reachable(house, placement, there), expected, (house, placement, there))
                    answers[expected] += there != placement
        self.assertGreater(min(answers.values()), 10)

    def test_people_of_a_tight_region_who_exchange(self):
        self.assertIs(mutually_reachable(PATH_OF_3, place([0, 1, 2]), place([1, 0, 2])), False)
        self.assertIs(mutually_reachable(PATH_OF_3, place([0, 1, 2, 2]), place([1, 0, 2, 0])), True)
        self.assertIs(mutually_reachable(PATH_OF_3, place([0, 2, 2]), place([2, 0, 2])), False)
        self.assertIs(mutually_reachable(PATH_OF_3, place([0, 2, 2]), place([0, 2, 0])), False)
        self.assertIs(mutually_reachable(PATH_OF_3, place([0, 0, 1]), place([1, 0, 0])), True)
        self.assertIs(mutually_reachable(PATH_OF_3, place([0, 0, 1]), place([1, 1, 1])), False)


class ClassSizeTest(SupportCase):
    def test_against_an_enumeration(self):
        sizes = set()
        for house, placement, ends in ENUMERATED:
            expected = 0
            for other in ends:
                # A placement with other empty rooms leads nowhere back.
                if {room for name, room in other} == {room for name, room in placement}:
                    expected += is_mutual(house, placement, other, ends) if len(ends) < 200 else 1
            self.assert_same(self.call(class_size, house, placement), expected, (house, placement))
            sizes.add(expected)
        self.assertGreater(len(sizes), 5)

    def test_great_regions(self):
        path = LARGE_HOUSES[1]
        self.assertEqual(class_size(path, place(range(8))), 1)
        # One more person than rooms: some two share a room, 9 over 2 pairs, and 8 groups in 8 rooms.
        self.assertEqual(class_size(path, place([*range(8), 0])), 36 * 40320)
        surjections = sum((-1) ** (8 - k) * choose(8, k) * k ** 12 for k in range(9))
        self.assertEqual(class_size(path, place([*range(8), 0, 1, 2, 3])), surjections)
        self.assertEqual(class_size(path, place([0] * 12)), 1)
        self.assertEqual(class_size(path, place([0] * 11 + [1])), 2 ** 12 - 2)

    def test_several_regions_multiply(self):
        house = (7, ((0, 1), (2, 3), (4, 5)))
        self.assertEqual(class_size(house, place([0, 1, 1, 2, 3, 4, 5, 5, 6])), 36)

    def test_no_people(self):
        for house in HOUSES:
            self.assert_same(class_size(house, ()), 1)


def choose(n, k):
    return len(list(itertools.combinations(range(n), k)))


class CountReachableTest(SupportCase):
    def tight_room(self, house, placement):
        return next((region[0] for region in own_tight_regions(house, placement) if len(region) > 1), None)

    def test_against_an_enumeration(self):
        answers = {"tight": 0, "counted": 0}
        for house, placement, ends in ENUMERATED:
            room = self.tight_room(house, placement)
            if room is None:
                self.assert_same(self.call(count_reachable, house, placement), len(ends), (house, placement))
            else:
                self.assert_raises(TightRegion, room, count_reachable, house, placement)
            answers["counted" if room is None else "tight"] += 1
        self.assertGreater(min(answers.values()), 30)

    def test_every_case(self):
        for house, placement in SMALL_CASES[::4] + LARGE_CASES:
            room = self.tight_room(house, placement)
            expected = 1
            for region in own_regions(house, placement):
                people = [name for name, here in placement if here in region]
                expected *= len(region) ** len(people)
            if room is None:
                self.assert_same(count_reachable(house, placement), expected)
            else:
                self.assert_raises(TightRegion, room, count_reachable, house, placement)

    def test_the_first_tight_region_of_two_or_more_rooms(self):
        house = (8, ((0, 1), (3, 4), (6, 7)))
        self.assert_raises(TightRegion, 3, count_reachable, house, place([0, 0, 1, 2, 4, 3, 7, 6]))
        self.assert_raises(TightRegion, 6, count_reachable, house, place([0, 0, 1, 2, 4, 5, 6, 7]))
        self.assert_raises(TightRegion, 0, count_reachable, house, place([1, 0, 7, 6]))
        self.assertEqual(count_reachable(house, place([0, 2, 3, 5, 7])), 1)
        self.assertEqual(count_reachable(house, place([0, 2, 3, 4, 4, 5, 7, 7])), 8)

    def test_great_regions(self):
        self.assertEqual(count_reachable(LARGE_HOUSES[1], place([*range(8), 0, 1, 2, 3])), 8 ** 12)
        self.assertEqual(count_reachable(LARGE_HOUSES[1], place([7] * 12)), 1)

    def test_no_people(self):
        for house in HOUSES:
            self.assert_same(count_reachable(house, ()), 1)


if __name__ == "__main__":
    unittest.main()
