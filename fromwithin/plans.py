"""Plans: moves to the target or the block that stands in the way, and exchanges of two people (points 19 to 21)."""

from fromwithin.arranging import exchange, loose_moves
from fromwithin.blocks import is_block, refuse_block
from fromwithin.conventions import is_pair
from fromwithin.errors import Blocked, OtherRegion, TightRegion
from fromwithin.moves import move_person, reaches_target
from fromwithin.placements import people_in, room_of
from fromwithin.regions import find_regions, is_tight, region_of
from fromwithin.tight import all_at_target, components_without, room_ahead, rooms_to_leave_first


def find_plan(house, placement, target):
    """Return some plan; raise Blocked if there is a block."""
    refuse_block(house, placement, target)
    moves = ()
    for region in find_regions(house, placement):
        if is_tight(placement, region):
            moves += tight_moves(house, placement, target, region)
        else:
            moves += loose_moves(house, placement, target, region)
    return moves


def tight_moves(house, placement, target, piece):
    """Return moves that bring all people of a solvable piece to their target rooms."""
    if all_at_target(placement, target, piece):
        return ()
    room = rooms_to_leave_first(house, placement, target, piece)[0]
    name = people_in(placement, room)[0]
    ahead = room_ahead(house, placement, target, room)
    moves = ((name, ahead),)
    reached = move_person(house, placement, name, ahead)
    for component in components_without(house, piece, room):
        if ahead in component:
            moves += loose_moves(house, reached, target, component)
        else:
            moves += tight_moves(house, reached, target, component)
    return moves


def solve(house, placement, target):
    """Return ("plan", moves) with a plan or ("block", block) with a block."""
    try:
        return ("plan", find_plan(house, placement, target))
    except Blocked as blocked:
        return ("block", blocked.block)


def is_answer(house, placement, target, value):
    """Return whether any value is ("plan", moves) with a plan or ("block", block) with a block."""
    if not is_pair(value):
        return False
    word, content = value
    if word == "plan":
        return reaches_target(house, placement, target, content)
    return word == "block" and is_block(house, placement, target, content)


def swap_people(house, placement, a, b):
    """Return moves after which two people have exchanged rooms and all others are where they were.

    The names may be any value. Raises UnknownPerson, OtherRegion or TightRegion, the first that applies.
    """
    room, other = room_of(placement, a), room_of(placement, b)
    region = region_of(house, placement, room)
    if other not in region:
        raise OtherRegion(other)
    if a != b and is_tight(placement, region):
        raise TightRegion(region[0])
    return exchange(house, placement, region, a, b)
