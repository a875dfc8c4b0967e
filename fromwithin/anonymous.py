"""People who are not told apart: counts of people in rooms, net flows and the fewest moves (points 28 to 30)."""

from fromwithin.conventions import is_integer, is_pair
from fromwithin.errors import Blocked
from fromwithin.houses import components, is_room, neighbors


def find_count_block(house, counts, target):
    """Return why the target is not reachable: ("empty", room) or ("unbalanced", room); None if it is reachable."""
    empty = empty_wanted_rooms(counts, target)
    if empty:
        return ("empty", empty[0])
    unbalanced = unbalanced_regions(house, counts, target)
    if unbalanced:
        return ("unbalanced", unbalanced[0][0])
    return None


def empty_wanted_rooms(counts, target):
    """Return the rooms that are empty and have a positive target number, in ascending order."""
    return [room for room, count in enumerate(counts) if count == 0 and target[room] > 0]


def unbalanced_regions(house, counts, target):
    """Return the regions whose total differs between counts and target, in order."""
    regions = components(house, occupied_rooms(counts))
    return [region for region in regions if total(counts, region) != total(target, region)]


def occupied_rooms(counts):
    """Return the rooms with positive counts in ascending order."""
    return tuple([room for room, count in enumerate(counts) if count > 0])


def total(counts, rooms):
    """Return the number of people in these rooms."""
    return sum([counts[room] for room in rooms])


def is_count_block(house, counts, target, value):
    """Return whether any value says of a room or of the first room of a region why the target is not reachable."""
    if not is_pair(value):
        return False
    word, room = value
    if not is_room(house, room):
        return False
    if word == "empty":
        return room in empty_wanted_rooms(counts, target)
    return word == "unbalanced" and room in [region[0] for region in unbalanced_regions(house, counts, target)]


def net_flows(house, counts, target):
    """Return (a, b, net flow) for each door between rooms that are not empty; raise Blocked if there is a block."""
    block = find_count_block(house, counts, target)
    if block is not None:
        raise Blocked(block)
    inner = [(a, b) for a, b in house[1] if counts[a] > 0 and counts[b] > 0]
    return tuple([(a, b, net_flow(house, counts, target, a, b)) for a, b in inner])


def net_flow(house, counts, target, a, b):
    """Return how many more people go from a to b than from b to a."""
    rooms, doors = house
    apart = (rooms, tuple([door for door in doors if door != (a, b)]))
    sides = [side for side in components(apart, occupied_rooms(counts)) if a in side]
    # Everybody who is too many on the side of a has to go through this door.
    return total(counts, sides[0]) - total(target, sides[0])


def fewest_moves(house, counts, target):
    """Return the minimum number of transfers; raise Blocked if there is a block."""
    return sum([abs(flow) for a, b, flow in net_flows(house, counts, target)])


def flow_plan(house, counts, target):
    """Return triples (count, a, b) that lead to the target with the fewest transfers and each door at most once.

    Raises Blocked if there is a block.
    """
    waiting = [transfers(a, b, flow) for a, b, flow in net_flows(house, counts, target) if flow != 0]
    done = []
    while waiting:
        # A room into which somebody still has to come waits. So it is not empty when they come.
        receivers = [b for count, a, b in waiting]
        done.extend([triple for triple in waiting if triple[1] not in receivers])
        waiting = [triple for triple in waiting if triple[1] in receivers]
    return tuple(done)


def transfers(a, b, flow):
    """Return the net flow of a door as a triple with a positive count."""
    return (flow, a, b) if flow > 0 else (-flow, b, a)


def flows_reach_target(house, counts, target, value):
    """Return whether any value is a tuple of triples that can be done in order and end in the target."""
    if not isinstance(value, tuple):
        return False
    held = list(counts)
    for triple in value:
        if not is_triple(house, triple):
            return False
        count, a, b = triple
        if held[a] < count or held[b] == 0:
            return False
        held[a] -= count
        held[b] += count
    return tuple(held) == target


def is_triple(house, value):
    """Return whether any value is a triple (count, a, b) with a positive count and adjacent rooms."""
    if not isinstance(value, tuple) or len(value) != 3 or not all([is_integer(part) for part in value]):
        return False
    count, a, b = value
    # A number that is no room is adjacent to nothing.
    return count >= 1 and b in neighbors(house, a)
