"""Emptying rooms: which first, in which orders, by which safe moves and with whose help (points 22 to 25).

A part is a pair (rooms, fixed) of connected rooms and their people, all of whom want a room in them. If it is fixed,
each person is alone in their room until the first room is emptied. Otherwise the people could first be arranged in
any way that leaves no room empty.
"""

from fromwithin.blocks import find_block, refuse_block, stuck_regions
from fromwithin.errors import Blocked
from fromwithin.houses import is_room
from fromwithin.moves import legal_moves, move_person
from fromwithin.placements import empty_rooms, people_within
from fromwithin.regions import find_regions, is_tight
from fromwithin.tight import components_without, people_outside, room_ahead, rooms_to_leave_first


def first_rooms(house, placement, target):
    """Return all rooms that can be the first of their region to be emptied in some plan, in ascending order.

    Raises Blocked if there is a block.
    """
    refuse_block(house, placement, target)
    found = []
    for part in region_parts(house, placement):
        found.extend(first_of_part(house, placement, target, part))
    return tuple(sorted(found))


def region_parts(house, placement):
    """Return the regions as parts. Only the tight ones are fixed."""
    return [(region, is_tight(placement, region)) for region in find_regions(house, placement)]


def first_of_part(house, placement, target, part):
    """Return the rooms of a part that can be emptied first, in ascending order."""
    rooms, fixed = part
    if fixed:
        return rooms_to_leave_first(house, placement, target, rooms)
    return tuple([room for room in unwanted(target, rooms) if can_be_split(house, target, rooms, room)])


def unwanted(target, rooms):
    """Return those of the rooms that are nobody's target room, in the same order."""
    return tuple([room for room in rooms if not people_within(target, (room,))])


def can_be_split(house, target, rooms, room):
    """Return whether each component without the room has the target rooms of at least as many people as rooms."""
    remaining = components_without(house, rooms, room)
    return all([len(people_within(target, component)) >= len(component) for component in remaining])


def parts_without(house, placement, target, part, room):
    """Return the parts that remain of a part when a room that can be emptied first is emptied."""
    rooms, fixed = part
    ahead = room_ahead(house, placement, target, room) if fixed else None
    return [(component, fixed and ahead not in component) for component in components_without(house, rooms, room)]


def can_empty_in_order(house, placement, target, rooms):
    """Return whether any value is a tuple of rooms that can be emptied in this order before all others.

    Raises Blocked if there is a block.
    """
    refuse_block(house, placement, target)
    if not isinstance(rooms, tuple) or not all([is_room(house, room) for room in rooms]):
        return False
    if len(set(rooms)) < len(rooms) or any([room in empty_rooms(house, placement) for room in rooms]):
        return False
    return orders_hold(house, placement, target, region_parts(house, placement), rooms)


def orders_hold(house, placement, target, parts, order):
    """Return whether the rooms of each part can be emptied first and in this order. Parts do not affect each other."""
    return all([order_holds(house, placement, target, part, within(order, part)) for part in parts])


def within(order, part):
    """Return the rooms of an order that are in the part."""
    return tuple([room for room in order if room in part[0]])


def order_holds(house, placement, target, part, order):
    """Return whether these rooms of a part can be emptied first and in this order."""
    if not order:
        return True
    if order[0] not in first_of_part(house, placement, target, part):
        return False
    parts = parts_without(house, placement, target, part, order[0])
    return orders_hold(house, placement, target, parts, order[1:])


def count_orders(house, placement, target):
    """Return the number of orders in which all rooms that must be emptied can be emptied.

    Raises Blocked if there is a block.
    """
    refuse_block(house, placement, target)
    return count_for_parts(house, placement, target, region_parts(house, placement), {})


def count_for_parts(house, placement, target, parts, known):
    """Return the number of orders for several parts. Orders of different parts can be mixed in any way."""
    ways = mixtures([len(unwanted(target, part[0])) for part in parts])
    for part in parts:
        ways *= count_for_part(house, placement, target, part, known)
    return ways


def count_for_part(house, placement, target, part, known):
    """Return the number of orders for a part. The dict of known numbers keeps it from being counted again."""
    if part not in known:
        ways = 0 if unwanted(target, part[0]) else 1
        for room in first_of_part(house, placement, target, part):
            smaller = parts_without(house, placement, target, part, room)
            ways += count_for_parts(house, placement, target, smaller, known)
        known[part] = ways
    return known[part]


def mixtures(sizes):
    """Return the number of ways to mix sequences of these lengths, each of which keeps its own order."""
    ways = 1
    total = 0
    for size in sizes:
        for count in range(1, size + 1):
            total += 1
            # This is a number of ways again, so the division leaves no remainder.
            ways = ways * total // count
    return ways


def safe_moves(house, placement, target):
    """Return all moves after which there is no block, in ascending order; raise Blocked if there is a block now."""
    refuse_block(house, placement, target)
    found = []
    for name, room in legal_moves(house, placement):
        if find_block(house, move_person(house, placement, name, room), target) is None:
            found.append((name, room))
    return tuple(found)


def helper_rooms(house, placement, target):
    """Return the first rooms of all stuck regions in ascending order; raise Blocked if somebody is outside."""
    outside = people_outside(house, placement, target)
    if outside:
        raise Blocked(("outside", outside[0]))
    return tuple([region[0] for region in stuck_regions(house, placement, target)])
