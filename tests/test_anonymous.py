"""Counts of people who are not told apart, checked against a search over all transfers."""

import itertools
import random
import unittest

from fromwithin import anonymous
from fromwithin.anonymous import fewest_moves, find_count_block, flow_plan, flows_reach_target, is_count_block
from fromwithin.anonymous import net_flows
from fromwithin.bounds import MAX_COUNT
from fromwithin.errors import Blocked
from support import HOUSES, LARGE_HOUSES, OTHER_VALUES, SupportCase, are_adjacent, connected, houses_with, replaced

PATH_OF_2 = (2, ((0, 1),))
PATH_OF_3 = (3, ((0, 1), (1, 2)))
PARTS = (None, True, False, 0, 1, 2, 3, -1, 8, "empty", "unbalanced", "", (), [], (1, 0, 1), 10 ** 59)


def search(house, counts):
    """For each reachable tuple of counts a shortest sequence of transfers, by a search over all transfers."""
    found = {counts: ()}
    waiting = [counts]
    for here in waiting:
        for a, b in itertools.permutations(range(house[0]), 2):
            if are_adjacent(house, a, b) and here[a] > 0 and here[b] > 0:
                there = tuple(count - (room == a) + (room == b) for room, count in enumerate(here))
                if there not in found:
                    found[there] = found[here] + ((a, b),)
                    waiting.append(there)
    return found


def own_count_regions(house, counts):
    occupied = [room for room in range(house[0]) if counts[room] > 0]
    inner = [door for door in house[1] if set(door) <= set(occupied)]
    return sorted({tuple(other for other in occupied if connected(inner, room, other)) for room in occupied})


def own_count_blocks(house, counts, target):
    """All blocks, in the order in which the document looks for them."""
    found = [("empty", room) for room in range(house[0]) if counts[room] == 0 and target[room] > 0]
    for region in own_count_regions(house, counts):
        if sum(counts[room] for room in region) != sum(target[room] for room in region):
            found.append(("unbalanced", region[0]))
    return found


def small_counts(rooms):
    most = {1: 4, 2: 3, 3: 2, 4: 2}[rooms]
    return list(itertools.product(range(most + 1), repeat=rooms))


def moved_at_random(source, house, counts, times):
    """Counts after some transfers of many people at once, each of which leaves somebody in the room."""
    held = list(counts)
    for time in range(times):
        a, b = source.choice(house[1])[::source.choice((1, -1))]
        if held[a] > 0 and held[b] > 0:
            count = source.randint(0, held[a] - 1)
            held[a], held[b] = held[a] - count, held[b] + count
    return tuple(held)


def large_cases():
    source = random.Random(77)
    for house in LARGE_HOUSES[1:]:
        for most in (3, 1000, MAX_COUNT // 10):
            for time in range(4):
                counts = tuple(source.choice((0, 1, source.randint(1, most), source.randint(1, most)))
                               for room in range(house[0]))
                yield house, counts, moved_at_random(source, house, counts, 30)
                yield house, counts, tuple(source.randint(0, most) for room in range(house[0]))
                yield house, counts, gathered(house, counts)


def gathered(house, counts):
    """Everybody in the last room of their region."""
    target = [0] * house[0]
    for region in own_count_regions(house, counts):
        target[region[-1]] = sum(counts[room] for room in region)
    return tuple(target)


LARGE_CASES = tuple(large_cases())


def done(house, counts, triples):
    """The counts after the triples, by the rule of the house; None if one cannot be done."""
    held = list(counts)
    for count, a, b in triples:
        if not are_adjacent(house, a, b) or held[a] < count or held[b] == 0:
            return None
        held[a], held[b] = held[a] - count, held[b] + count
    return tuple(held)


def own_reaches(house, counts, target, value):
    """Whether any value is a tuple of triples that reach the target."""
    if type(value) is not tuple:
        return False
    for triple in value:
        if type(triple) is not tuple or [type(part) for part in triple] != [int] * 3 or triple[0] < 1:
            return False
        if not all(0 <= room < house[0] for room in triple[1:]):
            return False
    return done(house, counts, value) == target


class InterfaceTest(SupportCase):
    def test_functions_are_defined_here_with_these_parameters(self):
        plain = ("house", "counts", "target")
        self.assert_interface(anonymous, {
            "find_count_block": plain, "net_flows": plain, "fewest_moves": plain, "flow_plan": plain,
            "is_count_block": (*plain, "value"), "flows_reach_target": (*plain, "value"),
        })


class CountCase(SupportCase):
    def assert_blocked(self, house, counts, target):
        block = find_count_block(house, counts, target)
        for function in (net_flows, fewest_moves, flow_plan):
            self.assert_raises(Blocked, block, function, house, counts, target)

    def check_plan(self, house, counts, target):
        plan = self.call(flow_plan, house, counts, target)
        self.assertIs(type(plan), tuple)
        for triple in plan:
            self.assertEqual([type(part) for part in (triple, *triple)], [tuple, int, int, int])
            self.assertGreaterEqual(triple[0], 1)
        doors = [(min(a, b), max(a, b)) for count, a, b in plan]
        self.assertEqual(len(doors), len(set(doors)))
        self.assertEqual(done(house, counts, plan), target, (house, counts, target, plan))
        self.assertEqual(sum(triple[0] for triple in plan), fewest_moves(house, counts, target))
        self.assertIs(flows_reach_target(house, counts, target, plan), True)


class SearchTest(CountCase):
    def check_all_targets(self, house, counts):
        ends = search(house, counts)
        for target in small_counts(house[0]):
            expected = own_count_blocks(house, counts, target)
            found = self.call(find_count_block, house, counts, target)
            self.assert_same(found, expected[0] if expected else None, (house, counts, target))
            self.assertIs(found is None, target in ends, (house, counts, target))
            if found is not None:
                self.assert_blocked(house, counts, target)
        for target, transfers in ends.items():
            self.assertIsNone(find_count_block(house, counts, target))
            flows = tuple(
                (a, b, transfers.count((a, b)) - transfers.count((b, a)))
                for a, b in house[1] if counts[a] > 0 and counts[b] > 0)
            self.assert_same(self.call(net_flows, house, counts, target), flows, (house, counts, target))
            self.assert_same(self.call(fewest_moves, house, counts, target), len(transfers), (house, counts, target))
            self.check_plan(house, counts, target)

    def test_houses_of_up_to_three_rooms(self):
        for rooms in (1, 2, 3):
            for house in houses_with(rooms):
                for counts in small_counts(rooms):
                    self.check_all_targets(house, counts)

    def test_houses_of_four_rooms(self):
        for at, house in enumerate(houses_with(4)):
            for counts in small_counts(4)[at % 9::9]:
                self.check_all_targets(house, counts)


class CountBlockTest(CountCase):
    def test_large_cases(self):
        seen = {"empty": 0, "unbalanced": 0, None: 0}
        for case in LARGE_CASES:
            expected = own_count_blocks(*case)
            found = self.call(find_count_block, *case)
            self.assert_same(found, expected[0] if expected else None, case)
            seen[found and found[0]] += 1
            if found is not None:
                self.assert_blocked(*case)
        self.assertGreater(min(seen.values()), 10, seen)

    def test_every_word_and_every_room(self):
        for case in LARGE_CASES:
            expected = [repr(value) for value in own_count_blocks(*case)]
            for word in ("empty", "unbalanced", "stuck", "", None):
                for room in (*range(-1, case[0][0] + 1), True, False, None, "0", [0], (0,)):
                    found = self.call(is_count_block, *case, (word, room))
                    self.assertIs(found, repr((word, room)) in expected, (case, word, room))

    def test_every_pair_of_small_counts(self):
        for house in (PATH_OF_3, (3, ((0, 2),)), (3, ())):
            for counts, target in itertools.product(small_counts(3), repeat=2):
                expected = own_count_blocks(house, counts, target)
                for word in ("empty", "unbalanced"):
                    for room in range(3):
                        found = is_count_block(house, counts, target, (word, room))
                        self.assertIs(found, (word, room) in expected, (house, counts, target))

    def test_changed_blocks_and_values_of_every_kind(self):
        for case in LARGE_CASES[::7] + ((PATH_OF_3, (1, 0, 2), (1, 1, 1)), (PATH_OF_2, (1, 1), (2, 0))):
            expected = [repr(value) for value in own_count_blocks(*case)]
            for block in own_count_blocks(*case):
                for value in replaced(block, PARTS):
                    self.assertIs(is_count_block(*case, value), repr(value) in expected, (case, value))
            for value in OTHER_VALUES:
                self.assertIs(self.call(is_count_block, *case, value), False)

    def test_bools_are_no_rooms(self):
        self.assertIs(is_count_block(PATH_OF_2, (1, 0), (1, 1), ("empty", 1)), True)
        self.assertIs(is_count_block(PATH_OF_2, (1, 0), (1, 1), ("empty", True)), False)
        self.assertIs(is_count_block(PATH_OF_2, (1, 1), (1, 2), ("unbalanced", 0)), True)
        self.assertIs(is_count_block(PATH_OF_2, (1, 1), (1, 2), ("unbalanced", False)), False)

    def test_one_kind_before_the_other(self):
        house = (5, ((0, 1), (2, 3)))
        self.assertEqual(find_count_block(house, (1, 1, 1, 0, 0), (2, 1, 0, 1, 1)), ("empty", 3))
        self.assertEqual(find_count_block(house, (1, 1, 1, 0, 0), (2, 1, 0, 0, 0)), ("unbalanced", 0))
        self.assertEqual(find_count_block(house, (1, 1, 1, 0, 0), (2, 0, 0, 0, 0)), ("unbalanced", 2))

    def test_nobody(self):
        for house in HOUSES:
            nobody = (0,) * house[0]
            self.assertIsNone(find_count_block(house, nobody, nobody))
            self.assert_same(net_flows(house, nobody, nobody), ())
            self.assert_same(fewest_moves(house, nobody, nobody), 0)
            self.assert_same(flow_plan(house, nobody, nobody), ())
            self.assertIs(flows_reach_target(house, nobody, nobody, ()), True)


class FlowTest(CountCase):
    def reachable_cases(self):
        for house, counts, target in LARGE_CASES:
            if not own_count_blocks(house, counts, target):
                yield house, counts, target

    def test_net_flows_balance_every_room(self):
        for house, counts, target in self.reachable_cases():
            flows = self.call(net_flows, house, counts, target)
            self.assertEqual(
                [flow[:2] for flow in flows], [door for door in house[1] if counts[door[0]] and counts[door[1]]])
            held = list(counts)
            for a, b, flow in flows:
                held[a], held[b] = held[a] - flow, held[b] + flow
            self.assertEqual(tuple(held), target)
            self.assertEqual(fewest_moves(house, counts, target), sum(abs(flow[2]) for flow in flows))

    def test_plans_with_great_numbers(self):
        plans = 0
        for case in self.reachable_cases():
            self.check_plan(*case)
            plans += 1
        self.assertGreater(plans, 100)

    def test_the_greatest_counts(self):
        house = LARGE_HOUSES[1]
        counts = (MAX_COUNT,) * 8
        self.assertEqual(fewest_moves(house, counts, counts), 0)
        target = (8 * MAX_COUNT, 0, 0, 0, 0, 0, 0, 0)
        self.assertEqual(fewest_moves(house, counts, target), 28 * MAX_COUNT)
        self.check_plan(house, counts, target)
        counts, target = (1, 1, 1, 1, 1, 1, 1, MAX_COUNT - 7), (MAX_COUNT - 7, 1, 1, 1, 1, 1, 1, 1)
        self.assertEqual(fewest_moves(house, counts, target), 7 * (MAX_COUNT - 8))
        self.check_plan(house, counts, target)

    def test_a_room_that_sends_only_after_all_have_come(self):
        self.assertEqual(flow_plan(PATH_OF_3, (1, 1, 2), (4, 0, 0)), ((2, 2, 1), (3, 1, 0)))
        star = (4, ((0, 1), (0, 2), (0, 3)))
        self.check_plan(star, (1, 5, 5, 1), (0, 0, 0, 12))
        self.check_plan(star, (9, 1, 1, 1), (0, 4, 4, 4))

    def test_every_walk_has_the_same_net_flows(self):
        source = random.Random(51)
        for house in (PATH_OF_3, (4, ((0, 1), (0, 2), (0, 3))), LARGE_HOUSES[4]):
            for time in range(20):
                counts = held = [source.randint(1, 4) for room in range(house[0])]
                net = {door: 0 for door in house[1]}
                for step in range(source.randint(0, 40)):
                    door = source.choice(house[1])
                    a, b = door[::source.choice((1, -1))]
                    if held[a] > 0 and held[b] > 0:
                        held = [count - (room == a) + (room == b) for room, count in enumerate(held)]
                        net[door] += 1 if door == (a, b) else -1
                flows = net_flows(house, tuple(counts), tuple(held))
                self.assertEqual({flow[:2]: flow[2] for flow in flows}, net)


class FlowsReachTargetTest(CountCase):
    def test_plans_with_parts_altered_repeated_or_missing(self):
        accepted = 0
        for case in LARGE_CASES[::3]:
            if own_count_blocks(*case):
                continue
            plan = flow_plan(*case)
            for value in [*replaced(plan, PARTS), plan + plan, plan[1:] + plan[:1], (plan,), list(plan)]:
                expected = own_reaches(*case, value)
                self.assertIs(flows_reach_target(*case, value), expected, (case, value))
                accepted += expected
        self.assertGreater(accepted, 5)

    def test_every_pair_of_triples(self):
        triples = [(count, a, b) for count in (-1, 0, 1, 2, 3) for a in (-1, 0, 1, 2) for b in (-1, 0, 1, 2, 3)]
        for counts, target in (((1, 1, 2), (4, 0, 0)), ((1, 1, 2), (2, 1, 1)), ((2, 1, 0), (3, 0, 0))):
            for value in itertools.chain(itertools.product(triples, repeat=1), itertools.product(triples, repeat=2)):
                expected = own_reaches(PATH_OF_3, counts, target, value)
                self.assertIs(flows_reach_target(PATH_OF_3, counts, target, value), expected, (counts, value))

    def test_bools_lists_and_other_values(self):
        case = (PATH_OF_2, (1, 1), (0, 2))
        self.assertIs(flows_reach_target(*case, ((1, 0, 1),)), True)
        for value in (
            ((True, 0, 1),), ((1, False, 1),), ((1, 0, True),), ([1, 0, 1],), [(1, 0, 1)], (1, 0, 1), ((1, 0, 1, None),),
            ((1, 0),), ((1, 0, 1), None), ("101",), (("1", 0, 1),), ((1, "0", 1),), {(1, 0, 1): 1}, ((1, 1, 0),),
        ):
            self.assertIs(self.call(flows_reach_target, *case, value), False, value)
        for value in OTHER_VALUES:
            for other in (value, (value,), ((value, 0, 1),), ((1, value, 1),), ((1, 0, value),), ((1, 0, 1), value)):
                self.assertIs(self.call(flows_reach_target, *case, other), False, other)

    def test_an_empty_tuple(self):
        self.assertIs(flows_reach_target(PATH_OF_2, (1, 1), (1, 1), ()), True)
        self.assertIs(flows_reach_target(PATH_OF_2, (1, 1), (2, 0), ()), False)

    def test_a_room_that_is_empty_before_the_first_of_them(self):
        self.assertIs(flows_reach_target(PATH_OF_2, (2, 0), (1, 1), ((1, 0, 1),)), False)
        self.assertIs(flows_reach_target(PATH_OF_2, (1, 1), (1, 1), ((1, 0, 1), (1, 1, 0))), False)
        self.assertIs(flows_reach_target(PATH_OF_2, (2, 1), (2, 1), ((1, 0, 1), (1, 1, 0))), True)
        self.assertIs(flows_reach_target(PATH_OF_2, (1, 1), (0, 2), ((2, 0, 1),)), False)

    def test_long_tuples_and_great_numbers(self):
        there_and_back = ((MAX_COUNT - 1, 0, 1), (MAX_COUNT - 1, 1, 0)) * 3000
        self.assertIs(flows_reach_target(PATH_OF_2, (MAX_COUNT, 1), (MAX_COUNT, 1), there_and_back), True)
        self.assertIs(flows_reach_target(PATH_OF_2, (MAX_COUNT, 1), (1, MAX_COUNT), there_and_back), False)
        self.assertIs(flows_reach_target(PATH_OF_2, (MAX_COUNT, 1), (1, MAX_COUNT), there_and_back[:-1]), True)
        self.assertIs(flows_reach_target(PATH_OF_2, (MAX_COUNT, 1), (0, MAX_COUNT + 1), ((10 ** 59, 0, 1),)), False)


if __name__ == "__main__":
    unittest.main()
