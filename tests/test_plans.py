"""Plans, answers and exchanges of two people, checked against the rule of the house alone and a search."""

import itertools
import random
import unittest

from fromwithin import plans
from fromwithin.blocks import find_block, is_block
from fromwithin.bounds import MAX_PLAN
from fromwithin.errors import Blocked, OtherRegion, TightRegion, UnknownPerson
from fromwithin.plans import find_plan, is_answer, solve, swap_people
from support import CASES, LARGE_CASES, LARGE_HOUSES, NAMES, OTHER_VALUES, SMALL_CASES, SupportCase
from support import connected_houses, houses_with, own_moves, own_region, own_step, own_tight_regions
from support import place, reachable, replaced, some_targets, some_tree, targets_for

PATH_OF_2 = (2, ((0, 1),))
PATH_OF_3 = (3, ((0, 1), (1, 2)))


def follow(house, placement, moves):
    """The placements on the way, by the rule of the house; None at the end if a move is not possible."""
    places = [placement]
    for move in moves:
        if move not in own_moves(house, places[-1]):
            return [*places, None]
        places.append(own_step(places[-1], move))
    return places


def occupied(placement):
    return {room for name, room in placement}


def large_trees():
    """Connected houses of five to eight rooms with five to twelve people, each room held by somebody."""
    source = random.Random(33)
    for time in range(12):
        for rooms in (5, 6, 7, 8):
            house = some_tree(source, rooms)
            for people in (rooms, rooms + 1, 12):
                choice = [*range(rooms), *source.choices(range(rooms), k=people - rooms)]
                yield house, place(source.sample(choice, people)), source


def plan_cases():
    for house, placement in SMALL_CASES[::5] + LARGE_CASES:
        for target in targets_for(house, placement):
            yield house, placement, target
    for house, placement, source in large_trees():
        for target in some_targets(source, house, placement, 1):
            yield house, placement, target


PLAN_CASES = tuple(plan_cases())


class InterfaceTest(SupportCase):
    def test_functions_are_defined_here_with_these_parameters(self):
        self.assert_interface(plans, {
            "find_plan": ("house", "placement", "target"),
            "solve": ("house", "placement", "target"),
            "is_answer": ("house", "placement", "target", "value"),
            "swap_people": ("house", "placement", "a", "b"),
        })


class PlanCase(SupportCase):
    def assert_plan(self, house, placement, target, moves):
        self.assertIs(type(moves), tuple)
        self.assertLessEqual(len(moves), MAX_PLAN)
        for move in moves:
            self.assertEqual([type(part) for part in (move, *move)], [tuple, str, int])
        self.assertEqual(follow(house, placement, moves)[-1], target, (house, placement, target, moves))

    def assert_blocked(self, function, case):
        with self.assertRaises(Blocked) as context:
            function(*case)
        self.assertIs(type(context.exception), Blocked)
        self.assertIs(is_block(*case, context.exception.block), True, case)


class FindPlanTest(PlanCase):
    def test_plans_and_blocks_on_every_case(self):
        planned = blocked = 0
        for case in PLAN_CASES:
            if find_block(*case) is None:
                self.assert_plan(*case, self.call(find_plan, *case))
                planned += 1
            else:
                self.assert_blocked(find_plan, case)
                blocked += 1
        self.assertGreater(min(planned, blocked), 300)

    def test_every_target_of_small_houses_against_a_search(self):
        source = random.Random(3)
        for house in (*houses_with(1), *houses_with(2), *houses_with(3), *list(houses_with(4))[::2]):
            for people in range(5):
                placement = place(source.choices(range(house[0]), k=people))
                ends = reachable(house, placement)
                for choice in itertools.product(range(house[0]), repeat=people):
                    case = (house, placement, place(choice))
                    if place(choice) in ends:
                        self.assert_plan(*case, find_plan(*case))
                    else:
                        self.assert_blocked(find_plan, case)

    def test_every_target_inside_a_loose_region(self):
        for house in connected_houses(4):
            for rooms in ([0, 1, 2, 3, 3], [2, 2, 1, 0, 3]):
                for choice in itertools.product(range(4), repeat=5):
                    self.assert_plan(house, place(rooms), place(choice), find_plan(house, place(rooms), place(choice)))

    def test_loose_regions_of_eight_rooms(self):
        source = random.Random(9)
        for house, placement, ignored in large_trees():
            if len(placement) > house[0]:
                for target in some_targets(source, house, placement, 1):
                    self.assert_plan(house, placement, target, find_plan(house, placement, target))

    def test_all_in_one_room_and_back_to_front(self):
        house = LARGE_HOUSES[1]
        placement = place([0, 1, 2, 3, 4, 5, 6, 7, 0, 1, 2, 3])
        for target in (place([7] * 12), place([0] * 12), place([room for name, room in placement][::-1])):
            self.assert_plan(house, placement, target, find_plan(house, placement, target))

    def test_solvable_tight_regions_of_eight_rooms(self):
        house, start = LARGE_HOUSES[1], place(range(8))
        for choice in ([1, 2, 3, 4, 5, 6, 7, 7], [0, 0, 1, 2, 3, 4, 5, 6], [1, 1, 1, 3, 4, 6, 6, 6],
                       [1, 0, 2, 2, 5, 5, 7, 6], [1, 0, 1, 3, 4, 6, 7, 6]):
            self.assert_plan(house, start, place(choice), find_plan(house, start, place(choice)))

    def test_the_placement_itself_as_target(self):
        for house, placement in CASES:
            self.assert_plan(house, placement, placement, find_plan(house, placement, placement))
            self.assert_same(find_plan(house, (), ()), ())

    def test_blocks_of_both_kinds(self):
        self.assert_blocked(find_plan, (PATH_OF_2, place([0, 1]), place([1, 0])))
        self.assert_blocked(find_plan, (PATH_OF_3, place([0, 1]), place([0, 2])))
        self.assert_blocked(find_plan, (PATH_OF_3, place([0, 2]), place([2, 0])))

    def test_people_beyond_the_limit(self):
        # Helpers may be more than twelve people (point 25).
        house = LARGE_HOUSES[4]
        placement = place([0, 1, 2, 3, 4, 5, 6, 7, 7, 7, 7, 7, 7]) + (("zed", 0), ("zoe", 1))
        target = place([7, 6, 5, 4, 3, 2, 1, 0, 0, 0, 0, 0, 0]) + (("zed", 2), ("zoe", 2))
        self.assert_plan(house, placement, target, find_plan(house, placement, target))


class SolveTest(PlanCase):
    def test_every_case(self):
        for case in PLAN_CASES:
            word, content = answer = self.call(solve, *case)
            self.assertIs(type(answer), tuple)
            if find_block(*case) is None:
                self.assertEqual(word, "plan")
                self.assert_plan(*case, content)
            else:
                self.assertEqual(word, "block")
                self.assertIs(is_block(*case, content), True)
            self.assertIs(is_answer(*case, answer), True)


def own_answer(case, value):
    """Whether a pair of a word and a content is an answer, by the rule of the house and is_block."""
    if type(value) is not tuple or len(value) != 2:
        return False
    if value[0] == "plan":
        return type(value[1]) is tuple and follow_any(case, value[1])
    return value[0] == "block" and is_block(*case, value[1])


def follow_any(case, moves):
    house, placement, target = case
    for move in moves:
        known = [repr(possible) for possible in own_moves(house, placement)]
        if repr(move) not in known:
            return False
        placement = own_step(placement, move)
    return placement == target


class IsAnswerTest(PlanCase):
    PARTS = (None, True, False, 0, 1, 2, "plan", "block", "ann", "ben", "zoe", "", (), [], ("ann", 1))

    def test_the_answer_with_parts_removed_repeated_or_replaced(self):
        accepted = rejected = 0
        for case in PLAN_CASES[::40]:
            answer = solve(*case)
            for value in replaced(answer, self.PARTS):
                found = is_answer(*case, value)
                self.assertIs(found, own_answer(case, value), (case, value))
                accepted, rejected = accepted + found, rejected + (not found)
        self.assertGreater(accepted, 5)
        self.assertGreater(rejected, 5000)

    def test_the_other_word_beside_a_content(self):
        for case in PLAN_CASES[::4]:
            word, content = solve(*case)
            other = "block" if word == "plan" else "plan"
            self.assertIs(is_answer(*case, (other, content)), False)
            self.assertIs(is_answer(*case, [word, content]), False)
            self.assertIs(is_answer(*case, (word, content, None)), False)
            self.assertIs(is_answer(*case, content), False)

    def test_only_one_word_is_ever_accepted(self):
        # Every short sequence of moves and every block with an empty certificate.
        for house in (PATH_OF_2, PATH_OF_3):
            for placement in (place(range(house[0])), place([0, 1, 1]), place([0])):
                moves = list(itertools.product([name for name, room in placement], range(house[0])))
                values = [("plan", steps) for size in range(4) for steps in itertools.product(moves, repeat=size)]
                values += [("block", ("outside", name)) for name, room in placement]
                values += [("block", ("stuck", room, ())) for room in range(house[0])]
                for choice in itertools.product(range(house[0]), repeat=len(placement)):
                    case = (house, placement, place(choice))
                    words = {value[0] for value in values if is_answer(*case, value)}
                    self.assertLessEqual(len(words), 1, case)

    def test_a_plan_with_a_detour_and_a_long_one(self):
        case = (PATH_OF_2, place([0, 0, 1]), place([1, 0, 1]))
        self.assertIs(is_answer(*case, ("plan", (("ann", 1),))), True)
        self.assertIs(is_answer(*case, ("plan", (("ann", 1), ("ann", 0)) * 2500 + (("ann", 1),))), True)
        self.assertIs(is_answer(*case, ("plan", (("ann", 1), ("ann", 0)) * 2500)), False)

    def test_values_of_every_kind(self):
        for case in PLAN_CASES[::100] + ((PATH_OF_2, place([0, 1]), place([1, 0])), (PATH_OF_2, (), ())):
            for value in OTHER_VALUES:
                for other in (value, ("plan", value), ("block", value), (value, ()), ("plan", (value,))):
                    self.assertIs(self.call(is_answer, *case, other), own_answer(case, other), (case, other))


class SwapPeopleTest(PlanCase):
    def check_swap(self, house, placement, a, b):
        moves = self.call(swap_people, house, placement, a, b)
        rooms = dict(placement)
        expected = tuple(sorted({**rooms, a: rooms[b], b: rooms[a]}.items()))
        self.assert_plan(house, placement, expected, moves)
        for here in follow(house, placement, moves):
            self.assertEqual(occupied(here), occupied(placement))
        region = own_region(house, placement, rooms[a])
        self.assertLessEqual({name for name, room in moves}, {name for name, room in placement if room in region})
        if rooms[a] == rooms[b]:
            self.assertEqual(moves, ())

    def test_every_pair_of_people_of_a_loose_region(self):
        swaps = 0
        for house, placement in SMALL_CASES[::3] + LARGE_CASES:
            tight = own_tight_regions(house, placement)
            for (a, room), (b, other) in itertools.product(placement, repeat=2):
                region = own_region(house, placement, room)
                if other in region and region not in tight:
                    self.check_swap(house, placement, a, b)
                    swaps += a != b and room != other
        self.assertGreater(swaps, 1000)

    def test_every_pair_in_full_houses(self):
        for house, placement, source in large_trees():
            if len(placement) > house[0]:
                for a, b in itertools.product(NAMES[:len(placement)], repeat=2):
                    self.check_swap(house, placement, a, b)

    def test_the_third_person_far_away(self):
        self.check_swap(LARGE_HOUSES[1], place([0, 1, 2, 3, 4, 5, 6, 7, 7]), "ann", "ben")
        self.check_swap(LARGE_HOUSES[1], place([0, 1, 2, 3, 4, 5, 6, 7, 0]), "hal", "gus")

    def test_the_same_person_also_in_a_tight_region(self):
        for house, placement in CASES:
            for name, room in placement:
                self.assert_same(swap_people(house, placement, name, name), ())

    def test_values_that_are_no_persons_name(self):
        for placement in ((), place([0, 1, 2]), place([0, 0, 1, 2])):
            for value in OTHER_VALUES:
                for other in ("ann", "zoe", None, [value]):
                    self.assert_raises(UnknownPerson, value, swap_people, PATH_OF_3, placement, value, other)
        for value in OTHER_VALUES:
            self.assert_raises(UnknownPerson, value, swap_people, PATH_OF_3, place([0, 0, 1]), "ann", value)
        name = ["ann"]
        self.assert_raises(UnknownPerson, name, swap_people, PATH_OF_3, place([0, 0]), name, {"ben": 1})

    def test_other_regions_and_tight_ones(self):
        for house, placement in SMALL_CASES[::3] + LARGE_CASES:
            tight = own_tight_regions(house, placement)
            for (a, room), (b, other) in itertools.product(placement, repeat=2):
                region = own_region(house, placement, room)
                if other not in region:
                    # Also where the region is tight: it is the error that is listed first.
                    self.assert_raises(OtherRegion, other, swap_people, house, placement, a, b)
                elif a != b and region in tight:
                    self.assert_raises(TightRegion, region[0], swap_people, house, placement, a, b)

    def test_two_errors_at_once(self):
        house, placement = (5, ((0, 1), (1, 2), (3, 4))), place([1, 2, 3, 4, 4])
        self.assert_raises(UnknownPerson, "zoe", swap_people, house, placement, "zoe", "joe")
        self.assert_raises(UnknownPerson, "joe", swap_people, house, placement, "ann", "joe")
        self.assert_raises(OtherRegion, 3, swap_people, house, placement, "ann", "cid")
        self.assert_raises(OtherRegion, 1, swap_people, house, placement, "cid", "ann")
        self.assert_raises(TightRegion, 1, swap_people, house, placement, "ben", "ann")


if __name__ == "__main__":
    unittest.main()
