"""Moves inside a loose region: exchanging two people, and reaching any target inside it (points 19 and 21)."""

from fromwithin.houses import neighbors, path_between
from fromwithin.moves import apply_moves, direct_moves
from fromwithin.placements import people_in, people_within, room_of, with_person_in
from fromwithin.regions import find_regions, is_tight


def walk(house, name, start, end):
    """Return the moves of a person along the path from one room to another."""
    return tuple([(name, room) for room in path_between(house, start, end)[1:]])


def sharing_people(placement, rooms):
    """Return the names of the people in these rooms who are not alone in their room, in ascending order."""
    names = people_within(placement, rooms)
    return tuple([name for name in names if len(people_in(placement, room_of(placement, name))) > 1])


def exchange(house, placement, region, a, b):
    """Return moves after which two people of a loose region have exchanged rooms. They empty no room."""
    room, other = room_of(placement, a), room_of(placement, b)
    if room == other:
        return ()
    there, back = walk(house, a, room, other), walk(house, b, other, room)
    sharing = sharing_people(placement, region)
    if a in sharing:
        return there + back
    if b in sharing:
        return back + there
    # Somebody who is not alone keeps the room of a until b has come.
    keeper = sharing[0]
    home = room_of(placement, keeper)
    return walk(house, keeper, home, room) + there + back + walk(house, keeper, room, home)


def arrange(house, placement, region, goal):
    """Return moves from the placement of the people of a loose region to a goal. Neither leaves a room of it empty."""
    reached = placement
    moves = ()
    astray = people_astray(reached, goal)
    while astray:
        steps = bring_one_home(house, reached, region, goal, astray)
        reached = apply_moves(house, reached, steps)
        moves += steps
        astray = people_astray(reached, goal)
    return moves


def people_astray(placement, goal):
    """Return the names of the people who are not where they are in the goal, in ascending order."""
    return tuple([name for name, room in placement if room_of(goal, name) != room])


def bring_one_home(house, placement, region, goal, astray):
    """Return moves that empty no room and bring one more person where they are in the goal."""
    for name in sharing_people(placement, region):
        if name in astray:
            return direct_moves(house, placement, name, room_of(goal, name))
    # Everybody astray is alone in their room now. So whoever belongs there is astray, too.
    alone = astray[0]
    owners = people_in(goal, room_of(placement, alone))
    return exchange(house, placement, region, alone, owners[0])


def spread(house, target, region):
    """Return a pair: a placement that leaves no room of a loose region empty, and moves from there to the target.

    The moves are found from the last one back to the first one. In this direction people enter empty rooms, but
    nobody leaves a room in which nobody stays. A group of rooms with more people than rooms can always grow.
    """
    reached = target
    moves = ()
    while len({room for name, room in reached}) < len(region):
        name, room = find_growth(house, reached, region)
        moves = walk(house, name, room, room_of(reached, name)) + moves
        reached = with_person_in(reached, name, room)
    return (reached, moves)


def find_growth(house, placement, region):
    """Return a person who is not alone, and an empty room of the region beside the group of rooms that they are in."""
    loose = [group for group in find_regions(house, placement) if not is_tight(placement, group)]
    group = loose[0]
    beside = [room for room in region if room not in group and touches(house, room, group)]
    return (sharing_people(placement, group)[0], beside[0])


def touches(house, room, group):
    """Return whether a room is adjacent to a room of the group."""
    return any([other in group for other in neighbors(house, room)])


def loose_moves(house, placement, target, region):
    """Return moves that bring all people of a loose region to their target rooms, which must be inside it."""
    names = people_within(placement, region)
    start = tuple([pair for pair in placement if pair[0] in names])
    goal, last = spread(house, tuple([pair for pair in target if pair[0] in names]), region)
    return arrange(house, start, region, goal) + last
