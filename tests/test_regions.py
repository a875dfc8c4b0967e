"""Regions, their surplus, and whether they are tight."""

import unittest

from fromwithin import regions
from fromwithin.errors import EmptyRoom
from fromwithin.regions import find_regions, is_tight, region_of, surplus
from support import CASES, HOUSES, SupportCase, own_region, own_regions, place

TWO_WINGS = (8, ((0, 4), (1, 5), (2, 4), (3, 5), (6, 7)))


class InterfaceTest(SupportCase):
    def test_functions_are_defined_here_with_these_parameters(self):
        self.assert_interface(regions, {
            "find_regions": ("house", "placement"),
            "region_of": ("house", "placement", "room"),
            "surplus": ("placement", "region"),
            "is_tight": ("placement", "region"),
        })


class FindRegionsTest(SupportCase):
    def test_every_case(self):
        for house, placement in CASES:
            found = self.call(find_regions, house, placement)
            self.assert_same(found, own_regions(house, placement), (house, placement))

    def test_nobody_in_the_house(self):
        for house in HOUSES:
            self.assertEqual(find_regions(house, ()), ())

    def test_order_of_regions(self):
        self.assertEqual(find_regions(TWO_WINGS, place(range(8))), ((0, 2, 4), (1, 3, 5), (6, 7)))
        self.assertEqual(find_regions(TWO_WINGS, place([7, 5, 3, 2, 0, 0])), ((0,), (2,), (3, 5), (7,)))

    def test_an_empty_room_splits_a_region(self):
        house = (8, ((0, 1), (1, 2), (2, 3), (3, 4), (4, 5), (5, 6), (6, 7)))
        self.assertEqual(find_regions(house, place(range(8))), ((0, 1, 2, 3, 4, 5, 6, 7),))
        self.assertEqual(find_regions(house, place([7, 6, 4, 3, 2, 0])), ((0,), (2, 3, 4), (6, 7)))


class RegionOfTest(SupportCase):
    def test_every_room(self):
        for house, placement in CASES:
            for room in range(house[0]):
                expected = own_region(house, placement, room)
                if expected is None:
                    self.assert_raises(EmptyRoom, room, region_of, house, placement, room)
                else:
                    self.assert_same(self.call(region_of, house, placement, room), expected, (house, placement, room))

    def test_nobody_in_the_house(self):
        for house in HOUSES:
            for room in range(house[0]):
                self.assert_raises(EmptyRoom, room, region_of, house, (), room)


class SurplusTest(SupportCase):
    def test_every_region(self):
        for house, placement in CASES:
            for region in own_regions(house, placement):
                people = sum(room in region for name, room in placement)
                self.assert_same(self.call(surplus, placement, region), people - len(region), (placement, region))
                self.assertGreaterEqual(surplus(placement, region), 0)

    def test_people_elsewhere_do_not_count(self):
        placement = place([0, 2, 4, 1, 1, 1, 6])
        self.assertEqual([surplus(placement, region) for region in ((0, 2, 4), (1,), (6,))], [0, 2, 0])


class IsTightTest(SupportCase):
    def test_every_region(self):
        tight = loose = 0
        for house, placement in CASES:
            rooms = [room for name, room in placement]
            for region in own_regions(house, placement):
                expected = all(rooms.count(room) == 1 for room in region)
                self.assertIs(self.call(is_tight, placement, region), expected, (placement, region))
                tight, loose = tight + expected, loose + (not expected)
        self.assertGreater(min(tight, loose), 500)

    def test_one_house_with_both_kinds(self):
        placement = place([0, 2, 4, 1, 3, 5, 5, 6, 6])
        found = [is_tight(placement, region) for region in find_regions(TWO_WINGS, placement)]
        self.assertEqual(found, [True, False, False])


if __name__ == "__main__":
    unittest.main()
