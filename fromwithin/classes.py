"""Classes of placements: which are mutually reachable, and how many are reachable (points 26 and 27)."""

from fromwithin.errors import TightRegion
from fromwithin.placements import people_within
from fromwithin.regions import find_regions, is_tight


def mutually_reachable(house, one, other):
    """Return whether two placements of the same people are mutually reachable."""
    regions = find_regions(house, one)
    if find_regions(house, other) != regions:
        return False
    return all([same_people(one, other, part) for region in regions for part in lasting_parts(one, region)])


def lasting_parts(placement, region):
    """Return the sets of rooms that a person of a region stays in while no room is emptied."""
    return [(room,) for room in region] if is_tight(placement, region) else [region]


def same_people(one, other, rooms):
    """Return whether the same people are in these rooms in both placements."""
    return people_within(one, rooms) == people_within(other, rooms)


def class_size(house, placement):
    """Return the number of placements in the class, including this one."""
    size = 1
    for region in find_regions(house, placement):
        if not is_tight(placement, region):
            size *= full_assignments(len(people_within(placement, region)), len(region))
    return size


def full_assignments(people, rooms):
    """Return the number of ways to assign people to rooms so that no room is empty."""
    # ways[k] is the number for k rooms. One more person joins others in any room, or opens any one of the rooms.
    ways = [1] + [0] * rooms
    for person in range(people):
        ways = [0] + [k * (ways[k] + ways[k - 1]) for k in range(1, rooms + 1)]
    return ways[rooms]


def count_reachable(house, placement):
    """Return the number of reachable placements, including this one.

    Raises TightRegion with the first room of the first tight region that has at least two rooms.
    """
    count = 1
    for region in find_regions(house, placement):
        if not is_tight(placement, region):
            for name in people_within(placement, region):
                count *= len(region)
        elif len(region) > 1:
            raise TightRegion(region[0])
    return count
