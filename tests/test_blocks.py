"""Certificates and blocks, checked against definitions of the tests' own and a search over all moves."""

import itertools
import random
import unittest

from fromwithin import blocks
from fromwithin.blocks import find_block, find_certificate, is_block, is_certificate, stuck_regions
from fromwithin.tight import is_solvable
from support import CASES, LARGE_HOUSES, NAMES, OTHER_VALUES, SMALL_CASES, SupportCase
from support import are_adjacent, between, connected, connected_houses, houses_with, own_next, own_outside, own_region
from support import own_regions, own_tight_regions, place, reachable, replaced, some_targets, some_tree, targets_for

PATH_OF_2 = (2, ((0, 1),))
PATH_OF_3 = (3, ((0, 1), (1, 2)))
PATH_OF_5 = (5, ((0, 1), (1, 2), (2, 3), (3, 4)))
TWO_PATHS = (8, ((0, 1), (1, 2), (3, 4), (4, 5), (6, 7)))

PARTS = (None, True, False, 0, 1, 2, 3, 7, 8, -1, "passed", "back", "outside", "stuck", "ann", "ben", "zoe", "", (), [])


def own_rows(house, placement, target, region, room):
    """All rows that the document allows for a room of a tight region."""
    wanted = dict(target)
    here = {there: name for name, there in placement if there in region}
    for there in region:
        if room in (between(house, there, wanted[here[there]]) or ()):
            yield (room, "passed", here[there])
    ahead = own_next(house, room, wanted[here[room]])
    for other in region:
        if are_adjacent(house, room, other) and other != ahead:
            yield (room, "back", other)


def own_islands(house, rooms):
    inner = [door for door in house[1] if set(door) <= set(rooms)]
    return {tuple(other for other in rooms if connected(inner, room, other)) for room in rooms}


def own_conditions(house, placement, target, region, rows):
    back = {row[0]: row[2] for row in rows if row[1] == "back"}
    if any((other, room) in back.items() for room, other in back.items()):
        return False
    home = {room for name, room in placement if dict(target)[name] == room}
    for island in own_islands(house, [room for room in region if room not in back]):
        beside = [room for room in back if any(are_adjacent(house, room, other) for other in island)]
        if set(island) <= home and all(back[room] in island for room in beside):
            return False
    return True


def own_certificates(house, placement, target, region):
    """All certificates for a tight region, by the definition."""
    wanted = {dict(target)[name] for name, room in placement if room in region}
    rows = [list(own_rows(house, placement, target, region, room)) for room in region if room not in wanted]
    return [
        chosen for chosen in itertools.product(*rows) if own_conditions(house, placement, target, region, chosen)]


def own_blocks(house, placement, target):
    """All blocks, by the definition."""
    outside = own_outside(house, placement, target)
    found = [("outside", name) for name in outside]
    for region in own_tight_regions(house, placement):
        if not any(room in region for name, room in placement if name in outside):
            found += [("stuck", region[0], rows) for rows in own_certificates(house, placement, target, region)]
    return found


def small_regions():
    """Every target inside every connected house of two to four rooms, and some inside those of five."""
    for rooms in range(2, 6):
        for house in connected_houses(rooms)[::1 if rooms < 5 else 11]:
            for at, choice in enumerate(itertools.product(range(rooms), repeat=rooms)):
                if rooms < 4 or at % 7 == sum(choice) % 7:
                    yield house, place(range(rooms)), place(choice), tuple(range(rooms))


def large_regions():
    """Targets of several sorts inside tight regions of five to eight rooms, whole houses and parts of houses."""
    source = random.Random(17)
    for time in range(25):
        for rooms in (5, 6, 7, 8):
            house = some_tree(source, rooms)
            used = source.sample(range(rooms), rooms - time % 2)
            placement = place(used)
            for region in own_regions(house, placement):
                names = [name for name, room in placement if room in region]
                for target in some_targets(source, house, placement, 2):
                    if len(region) > 1 and all(dict(target)[name] in region for name in names):
                        yield house, placement, target, region


SMALL_REGIONS = tuple(small_regions())
LARGE_REGIONS = tuple(large_regions())
REGIONS = SMALL_REGIONS + LARGE_REGIONS


class InterfaceTest(SupportCase):
    def test_functions_are_defined_here_with_these_parameters(self):
        self.assert_interface(blocks, {
            "find_certificate": ("house", "placement", "target", "region"),
            "is_certificate": ("house", "placement", "target", "region", "value"),
            "find_block": ("house", "placement", "target"),
            "is_block": ("house", "placement", "target", "value"),
            "stuck_regions": ("house", "placement", "target"),
        })


class FindCertificateTest(SupportCase):
    def test_the_cases_are_of_every_size_and_of_both_sorts(self):
        for rooms in range(2, 9):
            answers = [bool(own_certificates(*case)) for case in REGIONS if len(case[3]) == rooms]
            self.assertIn(True, answers)
            self.assertIn(False, answers)

    def test_a_returned_certificate_is_one_and_there_is_none_otherwise(self):
        for case in REGIONS:
            found = self.call(find_certificate, *case)
            expected = own_certificates(*case)
            if found is None:
                self.assertEqual(expected, [], case)
            else:
                self.assertIn(repr(found), [repr(value) for value in expected], case)
                self.assertIs(is_certificate(*case, found), True, case)

    def test_a_certificate_exists_exactly_if_the_region_is_not_solvable(self):
        for case in REGIONS:
            self.assertIs(find_certificate(*case) is None, is_solvable(*case), case)

    def test_a_certificate_exists_exactly_if_a_search_does_not_reach_the_target(self):
        for rooms in (2, 3, 4):
            for house in connected_houses(rooms):
                ends = reachable(house, place(range(rooms)))
                for choice in itertools.product(range(rooms), repeat=rooms):
                    found = find_certificate(house, place(range(rooms)), place(choice), tuple(range(rooms)))
                    self.assertIs(found is None, place(choice) in ends, (house, choice))

    def test_one_room(self):
        for house in LARGE_HOUSES:
            self.assertIsNone(find_certificate(house, place([3]), place([3]), (3,)))
            self.assertIs(is_certificate(house, place([3]), place([3]), (3,), ()), False)

    def test_everybody_at_home(self):
        for house in LARGE_HOUSES:
            start = place(range(house[0]))
            for region in own_regions(house, start):
                self.assertIsNone(find_certificate(house, start, start, region))
                self.assertIs(is_certificate(house, start, start, region, ()), False)


class IsCertificateTest(SupportCase):
    def test_exactly_the_certificates_of_the_definition_among_all_choices_of_rows(self):
        accepted = rejected = 0
        for house, placement, target, region in REGIONS:
            wanted = {dict(target)[name] for name, room in placement if room in region}
            rows = [
                list(own_rows(house, placement, target, region, room)) for room in region if room not in wanted]
            for chosen in itertools.product(*rows):
                expected = own_conditions(house, placement, target, region, chosen)
                found = is_certificate(house, placement, target, region, chosen)
                self.assertIs(found, expected, (house, placement, target, region, chosen))
                accepted, rejected = accepted + expected, rejected + (not expected)
        self.assertGreater(min(accepted, rejected), 300)

    def test_changed_certificates(self):
        for case in SMALL_REGIONS[::5] + LARGE_REGIONS[::9]:
            expected = [repr(value) for value in own_certificates(*case)]
            for certificate in own_certificates(*case)[:2]:
                for value in replaced(certificate, PARTS):
                    self.assertIs(is_certificate(*case, value), repr(value) in expected, (case, value))

    def test_rows_for_other_rooms(self):
        for house, placement, target, region in REGIONS[::10]:
            case = (house, placement, target, region)
            expected = [repr(value) for value in own_certificates(*case)]
            for certificate in own_certificates(*case)[:2]:
                for room in range(house[0]):
                    for row in ((room, "passed", "ann"), (room, "back", 0), (room, "back", 1), (room, "back", 2)):
                        for value in ((row, *certificate), (*certificate, row), tuple(sorted((row, *certificate)))):
                            self.assertIs(is_certificate(*case, value), repr(value) in expected, (case, value))

    def test_values_of_every_kind(self):
        for case in REGIONS[::40]:
            expected = [repr(value) for value in own_certificates(*case)]
            for value in OTHER_VALUES:
                found = self.call(is_certificate, *case, value)
                self.assertIs(found, repr(value) in expected, (case, value))
                self.assertIs(is_certificate(*case, (value,)), repr((value,)) in expected)
                self.assertIs(is_certificate(*case, ((value, "back", value),)), False)

    def test_the_two_choices_of_the_examples_region(self):
        placement, target = place(range(5)), place([1, 0, 3, 3, 4])
        case = (PATH_OF_5, placement, target, (0, 1, 2, 3, 4))
        self.assertIs(is_certificate(*case, ((2, "back", 1),)), True)
        # Room 3 is where cid wants to go, and nobody passes room 2.
        self.assertIs(is_certificate(*case, ((2, "back", 3),)), False)
        for name in NAMES[:5]:
            self.assertIs(is_certificate(*case, ((2, "passed", name),)), False)

    def test_a_still_island_without_a_witness(self):
        # Both exchanges at the ends keep the region stuck, so the rows may lead either way, but not from a still part.
        placement, target = place(range(5)), place([0, 1, 1, 4, 3])
        case = (PATH_OF_5, placement, target, (0, 1, 2, 3, 4))
        self.assertIs(is_certificate(*case, ((2, "back", 3),)), True)
        case = (PATH_OF_5, placement, place([0, 1, 1, 3, 4]), (0, 1, 2, 3, 4))
        self.assertIs(is_certificate(*case, ((2, "back", 3),)), False)
        self.assertIsNone(find_certificate(*case))

    def test_rows_that_name_each_other(self):
        # Ann and ben exchange, gus and hal exchange, and the people in rooms 3 and 4 go apart and help them.
        case = (LARGE_HOUSES[1], place(range(8)), place([1, 0, 2, 2, 5, 5, 7, 6]), tuple(range(8)))
        self.assertIs(is_solvable(*case), True)
        self.assertIs(is_certificate(*case, ((3, "back", 4), (4, "back", 3))), False)

    def test_rows_that_name_each_other_in_every_region(self):
        found = 0
        for case in LARGE_REGIONS + SMALL_REGIONS:
            house, placement, target, region = case
            wanted = {dict(target)[name] for name, room in placement if room in region}
            rows = [list(own_rows(*case, room)) for room in region if room not in wanted]
            for chosen in itertools.product(*rows):
                back = {row[0]: row[2] for row in chosen if row[1] == "back"}
                if any(back.get(other) == room for room, other in back.items()):
                    self.assertIs(is_certificate(*case, chosen), False)
                    found += 1
        self.assertGreater(found, 20)

    def test_a_person_of_another_region_in_a_passed_row(self):
        # Room 3 is empty, and eve passes room 1 of the other region on her way.
        placement, target = place([0, 1, 2, 5, 4]), place([0, 0, 2, 5, 0])
        house = (6, PATH_OF_5[1])
        self.assertEqual(own_regions(house, placement), ((0, 1, 2), (4,), (5,)))
        self.assertIs(is_certificate(house, placement, target, (0, 1, 2), ((1, "passed", "eve"),)), False)
        self.assertIsNone(find_certificate(house, placement, target, (0, 1, 2)))
        target = place([2, 0, 2, 5, 0])
        self.assertEqual(find_certificate(house, placement, target, (0, 1, 2)), ((1, "passed", "ann"),))
        self.assertIs(is_certificate(house, placement, target, (0, 1, 2), ((1, "passed", "ann"),)), True)
        self.assertIs(is_certificate(house, placement, target, (0, 1, 2), ((1, "passed", "eve"),)), False)

    def test_every_person_who_passes_may_be_named(self):
        placement, target = place([0, 1, 2]), place([2, 0, 0])
        for name in ("ann", "cid"):
            self.assertIs(is_certificate(PATH_OF_3, placement, target, (0, 1, 2), ((1, "passed", name),)), True)
        self.assertIs(is_certificate(PATH_OF_3, placement, target, (0, 1, 2), ((1, "passed", "ben"),)), False)


def block_cases():
    """Placements with targets: nobody and somebody outside, several regions, tight and loose ones."""
    for house, placement in SMALL_CASES[::6] + CASES[-len(LARGE_HOUSES) * 15:]:
        for target in targets_for(house, placement):
            yield house, placement, target
    source = random.Random(5)
    for house in LARGE_HOUSES:
        for time in range(4):
            used = source.sample(range(house[0]), source.randint(3, house[0]))
            for crowd in ([], [used[0]], source.choices(used, k=3)):
                placement = place(used + crowd)
                for target in some_targets(source, house, placement, 1):
                    yield house, placement, target
                yield house, placement, inside(source, house, placement)
    # Pairs of people who exchange, so that several regions are stuck at once.
    for house in (TWO_PATHS, LARGE_HOUSES[5], LARGE_HOUSES[6], LARGE_HOUSES[7]):
        for time in range(4):
            numbers = list(range(house[0]))
            for a, b in source.sample(house[1], min(len(house[1]), 3)):
                numbers[a], numbers[b] = numbers[b], numbers[a]
            yield house, place(range(house[0])), place(numbers)


def inside(source, house, placement):
    """A target with nobody outside."""
    return place([source.choice(own_region(house, placement, room)) for name, room in placement])


BLOCK_CASES = tuple(block_cases())


class BlockTest(SupportCase):
    def test_find_block_on_every_case(self):
        seen = {"outside": 0, "stuck": 0, "none": 0}
        for case in BLOCK_CASES:
            expected = own_blocks(*case)
            found = self.call(find_block, *case)
            if found is None:
                self.assertEqual(expected, [], case)
            else:
                self.assertIn(repr(found), [repr(value) for value in expected], case)
                # The first person outside, or else the first stuck region.
                self.assertEqual(found[:2], expected[0][:2], case)
                self.assertIs(is_block(*case, found), True)
            seen["none" if found is None else found[0]] += 1
        self.assertGreater(min(seen.values()), 50, seen)

    def test_stuck_regions_on_every_case(self):
        several = beside_outside = 0
        for case in BLOCK_CASES:
            firsts = {value[1] for value in own_blocks(*case) if value[0] == "stuck"}
            expected = tuple(region for region in own_regions(*case[:2]) if region[0] in firsts)
            self.assert_same(self.call(stuck_regions, *case), expected, case)
            several += len(expected) > 1
            beside_outside += bool(expected and own_outside(*case))
        self.assertGreater(several, 3)
        self.assertGreater(beside_outside, 10)

    def test_every_name_and_every_room_in_a_block(self):
        for case in BLOCK_CASES[::2]:
            expected = [repr(value) for value in own_blocks(*case)]
            certificates = [value[2] for value in own_blocks(*case) if value[0] == "stuck"][:2]
            for name in (*NAMES, "zoe"):
                self.assertIs(is_block(*case, ("outside", name)), repr(("outside", name)) in expected)
            for room in range(-1, case[0][0] + 1):
                for certificate in ((), *certificates):
                    value = ("stuck", room, certificate)
                    self.assertIs(is_block(*case, value), repr(value) in expected, (case, value))

    def test_changed_blocks(self):
        for case in BLOCK_CASES[::5]:
            expected = [repr(value) for value in own_blocks(*case)]
            for block in own_blocks(*case)[:1] + own_blocks(*case)[-1:]:
                for value in replaced(block, PARTS):
                    self.assertIs(is_block(*case, value), repr(value) in expected, (case, value))

    def test_values_of_every_kind(self):
        for case in BLOCK_CASES[::40] + ((PATH_OF_2, place([0, 1]), place([1, 0])), (PATH_OF_2, (), ())):
            expected = [repr(value) for value in own_blocks(*case)]
            for value in OTHER_VALUES:
                for other in (value, ("outside", value), ("stuck", value, ()), ("stuck", 0, value), (value, 0, ())):
                    self.assertIs(self.call(is_block, *case, other), repr(other) in expected, (case, other))

    def test_bools_are_no_rooms(self):
        case = ((3, ((1, 2),)), place([1, 2]), place([2, 1]))
        self.assertIs(is_block(*case, ("stuck", 1, ())), True)
        self.assertIs(is_block(*case, ("stuck", True, ())), False)
        case = (PATH_OF_2, place([0, 1]), place([1, 0]))
        self.assertIs(is_block(*case, ("stuck", 0, ())), True)
        self.assertIs(is_block(*case, ("stuck", False, ())), False)
        case = (PATH_OF_3, place([0, 1, 2]), place([0, 2, 0]))
        self.assertIs(is_block(*case, ("stuck", 0, ((1, "passed", "cid"),))), True)
        self.assertIs(is_block(*case, ("stuck", 0, ((True, "passed", "cid"),))), False)
        case = (PATH_OF_5, place(range(5)), place([1, 0, 3, 3, 4]))
        self.assertIs(is_block(*case, ("stuck", 0, ((2, "back", 1),))), True)
        self.assertIs(is_block(*case, ("stuck", 0, ((2, "back", True),))), False)

    def test_a_region_with_somebody_outside_is_no_stuck_one(self):
        # Ann and ben want to exchange, and cid of the same region wants an empty room.
        placement, target = place([0, 1, 2, 6, 7]), place([1, 0, 3, 7, 6])
        self.assertEqual(find_block(TWO_PATHS, placement, target), ("outside", "cid"))
        self.assertEqual(stuck_regions(TWO_PATHS, placement, target), ((6, 7),))
        self.assertIs(is_block(TWO_PATHS, placement, target, ("stuck", 6, ())), True)
        for certificate in ((), ((2, "back", 1),), ((2, "passed", "ann"),)):
            self.assertIs(is_block(TWO_PATHS, placement, target, ("stuck", 0, certificate)), False)

    def test_several_stuck_regions(self):
        placement, target = place(range(8)), place([1, 0, 2, 4, 3, 5, 7, 6])
        self.assertEqual(stuck_regions(TWO_PATHS, placement, target), ((0, 1, 2), (3, 4, 5), (6, 7)))
        self.assertEqual(find_block(TWO_PATHS, placement, target), ("stuck", 0, ()))
        for room in range(8):
            self.assertIs(is_block(TWO_PATHS, placement, target, ("stuck", room, ())), room in (0, 3, 6))
        placement, target = placement + (("ida", 1),), target + (("ida", 1),)
        self.assertEqual(stuck_regions(TWO_PATHS, placement, target), ((3, 4, 5), (6, 7)))
        self.assertEqual(find_block(TWO_PATHS, placement, target), ("stuck", 3, ()))

    def test_a_loose_region_is_never_stuck(self):
        for house in connected_houses(4):
            start = place([0, 1, 2, 3, 1])
            for choice in itertools.product(range(4), repeat=5):
                self.assertIsNone(find_block(house, start, place(choice)))

    def test_no_people_and_everybody_at_home(self):
        for house, placement in CASES:
            self.assertIsNone(find_block(house, placement, placement))
            self.assertEqual(stuck_regions(house, placement, placement), ())
            self.assertIsNone(find_block(house, (), ()))

    def test_one_more_person_frees_a_stuck_region(self):
        # Whoever it is, wherever they enter and whichever room of the region they want (point 2).
        for case in BLOCK_CASES[::3]:
            house, placement, target = case
            for region in stuck_regions(*case):
                for room, wanted in itertools.product(region, repeat=2):
                    for name in ("aa", "zz"):
                        more = tuple(sorted(placement + ((name, room),)))
                        goal = tuple(sorted(target + ((name, wanted),)))
                        self.assertNotIn(region, stuck_regions(house, more, goal))


class SearchTest(SupportCase):
    def check_all_targets(self, house, placement):
        ends = reachable(house, placement)
        for choice in itertools.product(range(house[0]), repeat=len(placement)):
            case = (house, placement, place(choice))
            found = find_block(*case)
            self.assertIs(found is None, place(choice) in ends, case)
            if found is not None:
                self.assertIs(is_block(*case, found), True, case)
        return ends

    def test_every_house_of_up_to_three_rooms(self):
        for rooms, most in ((1, 5), (2, 5), (3, 4)):
            for house in houses_with(rooms):
                for people in range(most + 1):
                    for choice in itertools.product(range(rooms), repeat=people):
                        self.check_all_targets(house, place(choice))

    def test_houses_of_three_and_four_rooms_with_up_to_five_people(self):
        source = random.Random(8)
        for house in (*houses_with(3), *houses_with(4)):
            for people in (3, 4, 5) if house[0] == 4 else (5,):
                self.check_all_targets(house, place(source.choices(range(house[0]), k=people)))

    def test_full_houses_of_four_rooms(self):
        for house in connected_houses(4):
            self.check_all_targets(house, place([2, 0, 3, 1]))

    def test_an_accepted_block_never_stands_beside_a_reachable_target(self):
        for house in (*houses_with(3), *list(houses_with(4))[::3]):
            for placement in (place(range(house[0])), place([0, 2, 2]), place([1, 0])):
                for target in reachable(house, placement):
                    values = [("outside", name) for name, room in placement]
                    for region in own_tight_regions(house, placement):
                        rows = [
                            [None, *own_rows(house, placement, target, region, room)] for room in region]
                        for chosen in itertools.product(*rows):
                            certificate = tuple(row for row in chosen if row is not None)
                            values.append(("stuck", region[0], certificate))
                    for value in values:
                        self.assertIs(is_block(house, placement, target, value), False, (house, placement, target))


if __name__ == "__main__":
    unittest.main()
