"""Blocks: certificates that a tight region is stuck, and people who are outside (points 17 and 18)."""

from fromwithin.conventions import is_integer, is_pair
from fromwithin.errors import Blocked
from fromwithin.houses import components, neighbors
from fromwithin.placements import people_within, room_of
from fromwithin.regions import find_regions, is_tight
from fromwithin.tight import all_at_target, passed_rooms, people_leaving, people_outside, room_ahead


def find_certificate(house, placement, target, region):
    """Return some certificate for a tight region, or None if there is none."""
    choices = [()]
    for room in unwanted_rooms(placement, target, region):
        rows = rows_to_try(house, placement, target, region, room)
        choices = [(*chosen, row) for chosen in choices for row in rows]
    for chosen in choices:
        if conditions_hold(house, placement, target, region, chosen):
            return chosen
    return None


def unwanted_rooms(placement, target, region):
    """Return the rooms of a region that are no target room of a person in it, in ascending order."""
    wanted = [room_of(target, name) for name in people_within(placement, region)]
    return tuple([room for room in region if room not in wanted])


def rows_to_try(house, placement, target, region, room):
    """Return rows for an unwanted room, among them one of some certificate if there is a certificate."""
    names = region_passing(house, placement, target, region, room)
    if names:
        # A "passed" row in place of a "back" row breaks no condition: it joins islands around the room into one,
        # which is not still, because the person in an unwanted room is not in their target room.
        return [(room, "passed", names[0])]
    return [(room, "back", other) for other in rooms_back(house, placement, target, region, room)]


def region_passing(house, placement, target, region, room):
    """Return the names of the people of a region who pass the room, in ascending order."""
    names = people_within(placement, region)
    return tuple([name for name in names if room in passed_rooms(house, placement, target, name)])


def rooms_back(house, placement, target, region, room):
    """Return the adjacent rooms of a tight region but not the next one toward the target of the person in a room."""
    ahead = room_ahead(house, placement, target, room)
    return tuple([other for other in neighbors(house, room) if other in region and other != ahead])


def conditions_hold(house, placement, target, region, rows):
    """Return whether no two "back" rows name each other and each still island has a "back" row that leads away."""
    back = {room: named for room, word, named in rows if word == "back"}
    if any([back.get(back[room]) == room for room in back]):
        return False
    for island in components(house, tuple([room for room in region if room not in back])):
        if all_at_target(placement, target, island) and not has_way_back(house, island, back):
            return False
    return True


def has_way_back(house, island, back):
    """Return whether a room beside the island has a "back" row whose neighbor is not in the island."""
    for room in back:
        if back[room] not in island and any([other in island for other in neighbors(house, room)]):
            return True
    return False


def is_certificate(house, placement, target, region, value):
    """Return whether any value is a certificate for a tight region."""
    rooms = unwanted_rooms(placement, target, region)
    if not isinstance(value, tuple) or len(value) != len(rooms):
        return False
    for room, row in zip(rooms, value):
        if not is_row(house, placement, target, region, room, row):
            return False
    return conditions_hold(house, placement, target, region, value)


def is_row(house, placement, target, region, room, value):
    """Return whether any value is a row of a certificate for this unwanted room."""
    if not isinstance(value, tuple) or len(value) != 3:
        return False
    first, word, named = value
    if not is_integer(first) or first != room:
        return False
    if word == "passed":
        return named in region_passing(house, placement, target, region, room)
    return word == "back" and is_integer(named) and named in rooms_back(house, placement, target, region, room)


def find_block(house, placement, target):
    """Return the block for the first person outside, else one for the first stuck region, else None."""
    outside = people_outside(house, placement, target)
    if outside:
        return ("outside", outside[0])
    for region in tight_regions(house, placement, target):
        certificate = find_certificate(house, placement, target, region)
        if certificate is not None:
            return ("stuck", region[0], certificate)
    return None


def refuse_block(house, placement, target):
    """Raise Blocked if there is a block."""
    block = find_block(house, placement, target)
    if block is not None:
        raise Blocked(block)


def tight_regions(house, placement, target):
    """Return the tight regions in which nobody is outside, in order."""
    found = []
    for region in find_regions(house, placement):
        if is_tight(placement, region) and not people_leaving(placement, target, region):
            found.append(region)
    return tuple(found)


def is_block(house, placement, target, value):
    """Return whether any value is a block."""
    if is_pair(value) and value[0] == "outside":
        return value[1] in people_outside(house, placement, target)
    if not isinstance(value, tuple) or len(value) != 3 or value[0] != "stuck" or not is_integer(value[1]):
        return False
    for region in tight_regions(house, placement, target):
        if region[0] == value[1]:
            return is_certificate(house, placement, target, region, value[2])
    return False


def stuck_regions(house, placement, target):
    """Return all stuck regions in which nobody is outside, in order."""
    regions = tight_regions(house, placement, target)
    return tuple([region for region in regions if find_certificate(house, placement, target, region) is not None])
