"""Texts of houses and placements (point 35)."""

from fromwithin.errors import InvalidText
from fromwithin.houses import is_house
from fromwithin.placements import is_placement, room_of

LINE_FEED = "\n"


def format_house(house):
    """Return the house text."""
    rooms, doors = house
    return joined([f"rooms {rooms}"] + [f"door {a} {b}" for a, b in doors])


def format_placement(placement, target):
    """Return the placement text."""
    return joined([f"{name} {room} {room_of(target, name)}" for name, room in placement])


def joined(lines):
    """Return the text of these lines, each of which ends with a line feed."""
    return "".join([line + LINE_FEED for line in lines])


def parse_house(value):
    """Return the house with exactly this text; raise InvalidText for any other value."""
    lines = split_lines(value)
    house = None
    for position, line in enumerate(lines):
        house = house_with_line(house, line)
        if house is None:
            raise InvalidText(position)
    # This holds for the empty text, too, which has no line with the number of rooms.
    if not value.endswith(LINE_FEED):
        raise InvalidText(len(lines))
    return house


def split_lines(value):
    """Return the lines of a text without line feeds; raise InvalidText if the value is not a string."""
    if not isinstance(value, str):
        raise InvalidText(None)
    lines = value.split(LINE_FEED)
    # After the last line feed nothing follows, which is not a line.
    return lines if lines[-1] else lines[:-1]


def house_with_line(house, line):
    """Return the house with one more line of its text, None for a house without lines or if the line cannot follow."""
    words = line.split(" ")
    if not all([is_digit(word) for word in words[1:]]):
        return None
    numbers = tuple([int(word) for word in words[1:]])
    if house is None:
        found = (*numbers, ()) if words[0] == "rooms" else None
    else:
        found = (house[0], (*house[1], numbers)) if words[0] == "door" else None
    return found if is_house(found) else None


def is_digit(word):
    """Return whether a string is one digit."""
    return len(word) == 1 and "0" <= word <= "9"


def parse_placement(house, value):
    """Return the placement and the target with exactly this text; raise InvalidText for any other value."""
    lines = split_lines(value)
    placement, target = (), ()
    for position, line in enumerate(lines):
        words = line.split(" ")
        if len(words) != 3 or not is_digit(words[1]) or not is_digit(words[2]):
            raise InvalidText(position)
        placement = (*placement, (words[0], int(words[1])))
        target = (*target, (words[0], int(words[2])))
        if not is_placement(house, placement) or not is_placement(house, target):
            raise InvalidText(position)
    if lines and not value.endswith(LINE_FEED):
        raise InvalidText(len(lines))
    return (placement, target)
