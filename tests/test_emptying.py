"""Rooms that are emptied, orders, safe moves and helpers, checked against a search over all moves."""

import itertools
import random
import unittest

from fromwithin import emptying
from fromwithin.blocks import find_block, is_block
from fromwithin.emptying import can_empty_in_order, count_orders, first_rooms, helper_rooms, safe_moves
from fromwithin.errors import Blocked
from support import CASES, LARGE_CASES, LARGE_HOUSES, OTHER_VALUES, SMALL_CASES, SupportCase
from support import connected_houses, houses_with, own_moves, own_outside, own_regions, own_step, place, reachable
from support import search_orders, some_targets, some_tree, targets_for

PATH_OF_2 = (2, ((0, 1),))
PATH_OF_3 = (3, ((0, 1), (1, 2)))
STAR_OF_8 = (8, tuple((0, room) for room in range(1, 8)))
BLOCKED_CASES = (
    (PATH_OF_2, place([0, 1]), place([1, 0])),
    (PATH_OF_3, place([0, 1]), place([0, 2])),
    (PATH_OF_3, place([0, 2]), place([2, 0])),
    (PATH_OF_3, place([0, 1, 2]), place([0, 2, 0])),
    ((4, ((0, 1), (2, 3))), place([0, 1, 2, 3]), place([1, 1, 3, 2])),
)


def occupied(placement):
    return {room for name, room in placement}


def searched_cases():
    """Small houses and placements, tight and loose, each with what a search over all moves finds."""
    source = random.Random(12)
    for rooms in (1, 2, 3, 4):
        for house in houses_with(rooms):
            full = source.sample(range(rooms), rooms)
            choices = [full, full + [full[0]], source.choices(range(rooms), k=rooms), full[1:], []]
            if rooms > 2:
                choices.append(source.choices(full[1:], k=rooms))
            if rooms < 4 or len(house[1]) == 3:
                choices.append([*full, *source.choices(range(rooms), k=5 - rooms)])
            for choice in choices:
                yield house, place(choice), search_orders(house, place(choice))


SEARCHED = tuple(searched_cases())


def reached_cases(step):
    """Every so many of the reachable targets, with the orders of the plans that reach them."""
    for house, placement, found in SEARCHED:
        for target in sorted(found)[::step] + [placement]:
            yield house, placement, target, found[target]


def large_cases():
    source = random.Random(71)
    for house in LARGE_HOUSES + tuple(some_tree(source, rooms) for rooms in (5, 6, 7, 8, 8, 8)):
        full = source.sample(range(house[0]), house[0])
        for choice in (full, full + [full[0]], full[2:], source.choices(full[1:], k=9)):
            for target in some_targets(source, house, place(choice), 1):
                yield house, place(choice), target


LARGE = tuple(large_cases())


class InterfaceTest(SupportCase):
    def test_functions_are_defined_here_with_these_parameters(self):
        self.assert_interface(emptying, {
            "first_rooms": ("house", "placement", "target"),
            "can_empty_in_order": ("house", "placement", "target", "rooms"),
            "count_orders": ("house", "placement", "target"),
            "safe_moves": ("house", "placement", "target"),
            "helper_rooms": ("house", "placement", "target"),
        })


class EmptyingCase(SupportCase):
    def assert_blocked(self, case, function, *more):
        for time in ("first call", "second call"):
            with self.assertRaises(Blocked, msg=(time, case)) as context:
                function(*case, *more)
            self.assertIs(type(context.exception), Blocked)
            self.assertIs(is_block(*case, context.exception.block), True, case)


class FirstRoomsTest(EmptyingCase):
    def test_against_a_search(self):
        seen = {}
        for house, placement, target, orders in reached_cases(2):
            expected = set()
            for region in own_regions(house, placement):
                within = [[room for room in order if room in region] for order in orders]
                expected |= {order[0] for order in within if order}
            found = self.call(first_rooms, house, placement, target)
            self.assert_same(found, tuple(sorted(expected)), (house, placement, target))
            seen[len(found)] = seen.get(len(found), 0) + 1
        self.assertGreater(min(seen[many] for many in (0, 1, 2, 3)), 5, seen)

    def test_every_target_of_full_houses(self):
        # Tight regions, in which few targets are reachable, and the rooms stand in every order.
        for house in connected_houses(4):
            start = place(range(4))
            found = search_orders(house, start)
            for target, orders in found.items():
                expected = tuple(sorted({order[0] for order in orders if order}))
                self.assertEqual(first_rooms(house, start, target), expected, (house, target))
                self.assertEqual(count_orders(house, start, target), len(orders), (house, target))

    def test_the_placement_itself(self):
        for house, placement in CASES:
            self.assert_same(first_rooms(house, placement, placement), ())

    def test_several_regions(self):
        house = (6, ((0, 1), (2, 3), (4, 5)))
        placement, target = place([0, 1, 2, 3, 4, 5, 5]), place([1, 1, 2, 2, 4, 4, 4])
        self.assertEqual(first_rooms(house, placement, target), (0, 3, 5))

    def test_eight_rooms(self):
        self.assertEqual(first_rooms(STAR_OF_8, place(range(8)), place([0] * 8)), (1, 2, 3, 4, 5, 6, 7))
        self.assertEqual(first_rooms(STAR_OF_8, place([*range(8), 3]), place([2] * 9)), (1, 3, 4, 5, 6, 7))
        self.assertEqual(first_rooms(LARGE_HOUSES[1], place([*range(8), 3]), place([0] * 9)), (7,))
        self.assertEqual(first_rooms(LARGE_HOUSES[1], place([*range(8), 3]), place([4] * 9)), (0, 7))
        # The middle may be left first where each side has as many people who want a room in it as it has rooms.
        self.assertEqual(
            first_rooms(LARGE_HOUSES[1], place([*range(8), 3]), place([0, 1, 2, 4, 4, 5, 6, 7, 7])), (3,))

    def test_each_returned_room_is_the_first_of_some_plan(self):
        # Of each region the rooms that can be emptied first are those with which an order can begin.
        for case in LARGE:
            if find_block(*case) is None:
                expected = tuple(room for room in range(case[0][0]) if can_empty_in_order(*case, (room,)))
                self.assertEqual(first_rooms(*case), expected, case)

    def test_blocked(self):
        for case in BLOCKED_CASES + tuple(case for case in LARGE if find_block(*case) is not None):
            self.assert_blocked(case, first_rooms)


class OrderTest(EmptyingCase):
    def test_every_order_against_a_search(self):
        answers = {True: 0, False: 0}
        for house, placement, target, orders in reached_cases(7):
            for size in range(house[0] + 1):
                for order in itertools.permutations(range(house[0]), size):
                    expected = any(whole[:size] == order for whole in orders)
                    found = can_empty_in_order(house, placement, target, order)
                    self.assertIs(found, expected, (house, placement, target, order))
                    answers[found] += size > 0
        self.assertGreater(min(answers.values()), 1000)

    def test_repeated_rooms(self):
        for house, placement, target, orders in reached_cases(29):
            for order in orders:
                for at, room in enumerate(order):
                    self.assertIs(can_empty_in_order(house, placement, target, order + (room,)), False)
                    self.assertIs(can_empty_in_order(house, placement, target, order[:at + 1] + order[at:]), False)

    def test_wanted_rooms_and_empty_ones(self):
        for house, placement, target, orders in reached_cases(13):
            wrong = occupied(target) | (set(range(house[0])) - occupied(placement))
            for order in list(orders)[:2]:
                for room in wrong:
                    for at in range(len(order) + 1):
                        value = order[:at] + (room,) + order[at:]
                        self.assertIs(can_empty_in_order(house, placement, target, value), False)

    def test_no_rooms(self):
        for house, placement, target, orders in reached_cases(5):
            self.assert_same(can_empty_in_order(house, placement, target, ()), True)

    def test_bools_lists_and_other_values(self):
        case = (PATH_OF_3, place([0, 1, 2, 2]), place([2, 2, 2, 2]))
        self.assertIs(can_empty_in_order(*case, (0, 1)), True)
        wrong = ((False, 1), (0, True), (False, True), [0, 1], [], [0], "01", {0: 1}, (0, 1, None), ("0", 1), ((0, 1),))
        for value in wrong:
            self.assertIs(self.call(can_empty_in_order, *case, value), False, value)
        case = (PATH_OF_3, place([0, 1, 2, 2]), place([0, 0, 2, 2]))
        self.assertIs(can_empty_in_order(*case, (1,)), True)
        self.assertIs(can_empty_in_order(*case, (True,)), False)

    def test_values_of_every_kind(self):
        for house, placement, target, orders in itertools.islice(reached_cases(11), 0, None, 40):
            for value in OTHER_VALUES:
                expected = repr(value) in [repr(order[:size]) for order in orders for size in (0, 1)]
                self.assertIs(self.call(can_empty_in_order, house, placement, target, value), expected, value)
                self.assertIs(can_empty_in_order(house, placement, target, (value,)), False)
                self.assertIs(can_empty_in_order(house, placement, target, (0, value)), False)

    def test_blocked_before_the_order_is_looked_at(self):
        for case in BLOCKED_CASES:
            for value in ((), (0,), (0, 1), *OTHER_VALUES):
                self.assert_blocked(case, can_empty_in_order, value)

    def test_tight_regions_with_two_rooms_to_empty(self):
        house, placement = (5, ((0, 1), (1, 2), (2, 3), (3, 4))), place(range(5))
        # Cid helps ann and ben to exchange. Dan can go on before or after that.
        target = place([1, 0, 1, 4, 4])
        self.assertEqual(first_rooms(house, placement, target), (2, 3))
        for order in ((2,), (3,), (2, 3), (3, 2)):
            self.assertIs(can_empty_in_order(house, placement, target, order), True)
        self.assertEqual(count_orders(house, placement, target), 2)
        # Dan passes room 2, so it cannot be emptied before he has come.
        target = place([1, 0, 1, 1, 4])
        self.assertEqual(first_rooms(house, placement, target), (3,))
        self.assertIs(can_empty_in_order(house, placement, target, (3, 2)), True)
        self.assertIs(can_empty_in_order(house, placement, target, (2, 3)), False)
        self.assertEqual(count_orders(house, placement, target), 1)


class CountOrdersTest(EmptyingCase):
    def test_against_a_search(self):
        seen = {}
        for house, placement, target, orders in reached_cases(2):
            self.assert_same(self.call(count_orders, house, placement, target), len(orders), (house, placement, target))
            seen[len(orders)] = seen.get(len(orders), 0) + 1
        self.assertGreater(min(seen[many] for many in (1, 2, 3, 6)), 2, seen)

    def test_the_number_of_orders_that_are_possible(self):
        # Larger houses, where all orders of the rooms that must be emptied are tried.
        counted = 0
        for case in LARGE:
            unwanted = occupied(case[1]) - occupied(case[2])
            if find_block(*case) is None and len(unwanted) <= 5:
                orders = [order for order in itertools.permutations(unwanted) if can_empty_in_order(*case, order)]
                self.assertEqual(count_orders(*case), len(orders), case)
                self.assertGreater(len(orders), 0, case)
                counted += len(orders) > 1
        self.assertGreater(counted, 10)

    def test_stars_and_paths_of_eight_rooms(self):
        self.assertEqual(count_orders(STAR_OF_8, place([*range(8), 0]), place([0] * 9)), 5040)
        self.assertEqual(count_orders(STAR_OF_8, place(range(8)), place([0] * 8)), 5040)
        self.assertEqual(count_orders(LARGE_HOUSES[1], place([*range(8), 0]), place([0] * 9)), 1)
        # Three rooms on the one side and four on the other side, each from its end.
        self.assertEqual(count_orders(LARGE_HOUSES[1], place([*range(8), 0]), place([3] * 9)), 35)

    def test_orders_of_several_regions_are_mixed(self):
        house = (8, ((0, 1), (1, 2), (3, 4), (4, 5), (6, 7)))
        placement = place([*range(8), 1, 4, 7])
        self.assertEqual(count_orders(house, placement, place([0, 0, 0, 3, 3, 3, 6, 6, 0, 3, 6])), 30)

    def test_nothing_to_empty(self):
        for house, placement in CASES:
            self.assert_same(count_orders(house, placement, placement), 1)
        self.assertEqual(count_orders(PATH_OF_2, place([0, 1, 1]), place([1, 0, 0])), 1)

    def test_blocked(self):
        for case in BLOCKED_CASES + tuple(case for case in LARGE if find_block(*case) is not None):
            self.assert_blocked(case, count_orders)


class SafeMovesTest(EmptyingCase):
    def check_case(self, case):
        house, placement, target = case
        if find_block(*case) is not None:
            self.assert_blocked(case, safe_moves)
            return
        found = self.call(safe_moves, *case)
        steps = sorted(own_moves(house, placement))
        expected = [move for move in steps if find_block(house, own_step(placement, move), target) is None]
        self.assert_same(found, tuple(expected), case)
        if target != placement:
            self.assertGreater(len(found), 0, case)

    def test_every_case(self):
        for house, placement in SMALL_CASES[::8] + LARGE_CASES:
            for target in targets_for(house, placement):
                self.check_case((house, placement, target))
        for case in LARGE:
            self.check_case(case)

    def test_against_a_search(self):
        unsafe = 0
        for house in connected_houses(4)[::3]:
            for placement in (place([0, 1, 2, 3]), place([0, 1, 2, 3, 2])):
                ends = {move: reachable(house, own_step(placement, move)) for move in own_moves(house, placement)}
                for target in sorted(reachable(house, placement))[::3]:
                    expected = tuple(sorted(move for move in ends if target in ends[move]))
                    self.assertEqual(safe_moves(house, placement, target), expected, (house, placement, target))
                    unsafe += len(expected) < len(ends)
        self.assertGreater(unsafe, 100)

    def test_safe_moves_alone_reach_no_block(self):
        source = random.Random(6)
        for case in LARGE[::5]:
            house, placement, target = case
            for time in range(20):
                if find_block(house, placement, target) is not None or placement == target:
                    break
                placement = own_step(placement, source.choice(safe_moves(house, placement, target)))
                self.assertIsNone(find_block(house, placement, target))

    def test_blocked(self):
        for case in BLOCKED_CASES:
            self.assert_blocked(case, safe_moves)

    def test_nobody(self):
        self.assert_same(safe_moves(PATH_OF_3, (), ()), ())


class HelperRoomsTest(EmptyingCase):
    def with_helpers(self, case, rooms):
        """The case with one helper in each of the regions that begin with these rooms."""
        house, placement, target = case
        for at, room in enumerate(rooms):
            placement += (("z" * (at + 1), room),)
            target += (("z" * (at + 1), room),)
        return house, placement, target

    def check_case(self, case):
        found = self.call(helper_rooms, *case)
        self.assertEqual(found, tuple(sorted(found)))
        self.assertIsNone(find_block(*self.with_helpers(case, found)), case)
        for at in range(len(found)):
            fewer = found[:at] + found[at + 1:]
            self.assertIsNotNone(find_block(*self.with_helpers(case, fewer)), case)
        firsts = [region[0] for region in own_regions(*case[:2])]
        self.assertLessEqual(set(found), set(firsts))
        return found

    def cases(self):
        for house, placement in SMALL_CASES[::8] + LARGE_CASES:
            for target in targets_for(house, placement):
                yield house, placement, target
        yield from LARGE
        house = (8, ((0, 1), (2, 3), (4, 5), (5, 6)))
        for choice in itertools.product(*([(a, b), (b, a)] for a, b in ((0, 1), (2, 3), (4, 5)))):
            yield house, place(range(8)), place([*choice[0], *choice[1], *choice[2], 6, 7])

    def test_every_case(self):
        seen = {}
        for case in self.cases():
            outside = own_outside(*case)
            if outside:
                with self.assertRaises(Blocked) as context:
                    helper_rooms(*case)
                self.assertEqual(context.exception.block[0], "outside")
                self.assertIn(context.exception.block[1], outside)
                self.assertIs(is_block(*case, context.exception.block), True)
            else:
                many = len(self.check_case(case))
                seen[many] = seen.get(many, 0) + 1
        self.assertEqual(sorted(seen), [0, 1, 2, 3])

    def test_helpers_anywhere_in_the_region(self):
        case = (PATH_OF_3, place([0, 1, 2]), place([2, 1, 0]))
        self.assertEqual(helper_rooms(*case), (0,))
        for room, wanted in itertools.product(range(3), repeat=2):
            self.assertIsNone(find_block(PATH_OF_3, case[1] + (("zoe", room),), case[2] + (("zoe", wanted),)))

    def test_more_than_twelve_people_with_helpers(self):
        house = (8, ((0, 1), (2, 3), (4, 5), (6, 7)))
        case = (house, place([0, 1, 2, 3, 4, 5, 6, 7, 7, 7, 7, 7]), place([1, 0, 3, 2, 5, 4, 7, 6, 6, 6, 6, 6]))
        self.assertEqual(self.check_case(case), (0, 2, 4))

    def test_somebody_outside_beside_a_stuck_region(self):
        house = (5, ((0, 1), (2, 3)))
        with self.assertRaises(Blocked) as context:
            helper_rooms(house, place([0, 1, 2, 2]), place([1, 0, 3, 4]))
        self.assertEqual(context.exception.block, ("outside", "cid"))


if __name__ == "__main__":
    unittest.main()
