"""Regions: connected rooms that are not empty (point 9)."""

from fromwithin.errors import EmptyRoom
from fromwithin.houses import components
from fromwithin.placements import people_in, people_within


def find_regions(house, placement):
    """Return the regions, each in ascending order, ordered by their first rooms."""
    occupied = tuple([room for room in range(house[0]) if people_in(placement, room)])
    return components(house, occupied)


def region_of(house, placement, room):
    """Return the region that contains the room; raise EmptyRoom if the room is empty."""
    for region in find_regions(house, placement):
        if room in region:
            return region
    raise EmptyRoom(room)


def surplus(placement, region):
    """Return the number of people in the region minus its number of rooms."""
    return len(people_within(placement, region)) - len(region)


def is_tight(placement, region):
    """Return whether each room of the region holds exactly one person."""
    # No room of a region is empty, so there is no surplus only if nobody shares a room.
    return surplus(placement, region) == 0
