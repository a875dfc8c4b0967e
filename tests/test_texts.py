"""Texts of houses and placements, and the position of the first wrong line."""

import random
import re
import unittest

from fromwithin import texts
from fromwithin.errors import InvalidText
from fromwithin.texts import format_house, format_placement, parse_house, parse_placement
from support import CASES, HOUSES, LARGE_CASES, LARGE_HOUSES, OTHER_VALUES, SMALL_CASES, SupportCase, connected, place
from support import targets_for

PATH_OF_2 = (2, ((0, 1),))
PATH_OF_3 = (3, ((0, 1), (1, 2)))
NO_STRINGS = tuple(value for value in OTHER_VALUES if not isinstance(value, str)) + (b"rooms 3\n", ["rooms 3\n"], 3)


def lines_of(text):
    """All lines, with a last one that has no line feed unless nothing stands there."""
    *whole, rest = text.split("\n")
    return [*whole, rest] if rest else whole


def house_position(text):
    """The position of the first wrong line of a house text, or None if the text is valid."""
    lines = lines_of(text)
    doors = []
    for at, line in enumerate(lines):
        if at == 0:
            if not re.fullmatch("rooms [1-8]", line):
                return 0
            continue
        found = re.fullmatch("door ([0-7]) ([0-7])", line)
        door = tuple(int(digit) for digit in found.groups()) if found else None
        if door is None or not door[0] < door[1] < int(lines[0][6]) or connected(doors, *door) or [door] <= doors[-1:]:
            return at
        doors.append(door)
    return None if lines and text.endswith("\n") else len(lines)


def placement_position(house, text):
    """The position of the first wrong line of a placement text, or None if the text is valid."""
    lines = lines_of(text)
    before = ""
    for at, line in enumerate(lines):
        found = re.fullmatch("([a-z]{1,8}) ([0-7]) ([0-7])", line)
        if not found or at == 12 or found[1] <= before or max(int(found[2]), int(found[3])) >= house[0]:
            return at
        before = found[1]
    return None if not lines or text.endswith("\n") else len(lines)


def with_changes(text, source, many):
    """The text with changes at one or two places, always the same ones for a source."""
    signs = " \n0123789-+aAzroms_.,\t~"
    for time in range(many):
        changed = text
        for place_number in range(source.choice((1, 1, 2))):
            at = source.randint(0, len(changed))
            changed = source.choice((
                changed[:at] + changed[at + 1:], changed[:at] + source.choice(signs) + changed[at + 1:],
                changed[:at] + source.choice(signs) + changed[at:], changed[:at] + changed[at:at + 1] + changed[at:]))
        yield changed
    lines = text.splitlines(keepends=True)
    for at in range(len(lines)):
        yield "".join(lines[:at] + lines[at + 1:])
        yield "".join(lines[:at + 1] + lines[at:])
        yield "".join(lines[:at] + lines[at:][::-1])


class InterfaceTest(SupportCase):
    def test_functions_are_defined_here_with_these_parameters(self):
        self.assert_interface(texts, {
            "format_house": ("house",), "format_placement": ("placement", "target"), "parse_house": ("value",),
            "parse_placement": ("house", "value"),
        })


class HouseTextTest(SupportCase):
    def check_text(self, text):
        expected = house_position(text)
        if expected is None:
            house = self.call(parse_house, text)
            self.assertEqual(format_house(house), text)
        else:
            self.assert_raises(InvalidText, expected, parse_house, text)
        return expected

    def test_every_house_is_parsed_to_itself(self):
        for house in HOUSES:
            text = self.call(format_house, house)
            self.assertEqual(text, f"rooms {house[0]}\n" + "".join(f"door {a} {b}\n" for a, b in house[1]))
            self.assert_same(self.call(parse_house, text), house)

    def test_texts_cut_at_every_place(self):
        for house in HOUSES:
            text = format_house(house)
            for end in range(len(text) + 1):
                self.check_text(text[:end])
            lines = len(house[1]) + 1
            self.assert_raises(InvalidText, lines, parse_house, text[:-1])
            self.assert_raises(InvalidText, lines, parse_house, text + "\n")
            self.assert_raises(InvalidText, 0, parse_house, "\n" + text)

    def test_changed_texts(self):
        source = random.Random(19)
        positions = {}
        for house in HOUSES[::3] + LARGE_HOUSES:
            for text in with_changes(format_house(house), source, 80):
                found = self.check_text(text)
                positions[found] = positions.get(found, 0) + 1
        self.assertGreater(min(positions[at] for at in (None, 0, 1, 2, 3, 4, 5, 6)), 10, positions)

    def test_no_lines(self):
        self.assert_raises(InvalidText, 0, parse_house, "")
        self.assert_raises(InvalidText, 0, parse_house, "\n")
        self.assert_raises(InvalidText, 0, parse_house, " ")

    def test_wrong_first_lines(self):
        for line in (
            "rooms 0", "rooms 9", "rooms 03", "rooms 10", "rooms  3", "rooms 3 ", " rooms 3", "rooms", "rooms ", "Rooms 3",
            "room 3", "rooms +3", "rooms -3", "rooms 3.", "rooms x", "rooms three", "rooms\t3", "rooms 3\t", "door 0 1",
            "rooms 3 3", "rooms 3,", "3", "3 rooms", "rooms3", "rooms \u0663", "rooms \u00b3",
        ):
            for end in ("", "\n", "\ndoor 0 1\n"):
                self.assert_raises(InvalidText, 0, parse_house, line + end)

    def test_wrong_door_lines(self):
        for line in (
            "door 0 3", "door 3 4", "door 1 0", "door 0 0", "door 0 1", "door 00 2", "door 0 02", "door 0", "door", "door 0 ",
            "door  0 2", "door 0  2", "door 0 2 ", " door 0 2", "door 0 2 1", "Door 0 2", "doors 0 2", "door -0 2", "door 0 +2",
            "door a b", "rooms 3", "door 0,2", "door 0 2,", "door 1 9", "door 0\t2", "door 0 \u0662",
        ):
            for end in ("", "\n", "\ndoor 1 2\n"):
                self.assert_raises(InvalidText, 2, parse_house, "rooms 3\ndoor 0 1\n" + line + end)

    def test_cycles_and_doors_out_of_order(self):
        self.assert_raises(InvalidText, 3, parse_house, "rooms 3\ndoor 0 1\ndoor 0 2\ndoor 1 2\n")
        self.assert_raises(InvalidText, 2, parse_house, "rooms 3\ndoor 1 2\ndoor 0 1\n")
        self.assert_raises(InvalidText, 2, parse_house, "rooms 3\ndoor 0 2\ndoor 0 1\n")
        self.assert_raises(InvalidText, 2, parse_house, "rooms 3\ndoor 0 2\ndoor 0 2\n")
        self.assert_raises(InvalidText, 1, parse_house, "rooms 3\n\ndoor 0 2\n")

    def test_values_that_are_no_strings(self):
        for value in NO_STRINGS:
            self.assert_raises(InvalidText, None, parse_house, value)

    def test_strings_of_every_kind(self):
        for value in OTHER_VALUES:
            if isinstance(value, str):
                self.check_text(value)


class PlacementTextTest(SupportCase):
    def check_text(self, house, text):
        expected = placement_position(house, text)
        if expected is None:
            placement, target = self.call(parse_placement, house, text)
            self.assertEqual(format_placement(placement, target), text)
        else:
            self.assert_raises(InvalidText, expected, parse_placement, house, text)
        return expected

    def test_every_placement_is_parsed_to_itself(self):
        for house, placement in CASES:
            for target in targets_for(house, placement):
                text = self.call(format_placement, placement, target)
                wanted = dict(target)
                self.assertEqual(text, "".join(f"{name} {room} {wanted[name]}\n" for name, room in placement))
                self.assert_same(self.call(parse_placement, house, text), (placement, target))

    def test_no_people(self):
        for house in HOUSES:
            self.assert_same(format_placement((), ()), "")
            self.assert_same(parse_placement(house, ""), ((), ()))
            self.assert_raises(InvalidText, 0, parse_placement, house, "\n")

    def test_texts_cut_at_every_place(self):
        for house, placement in SMALL_CASES[::50] + LARGE_CASES[::5]:
            for target in targets_for(house, placement):
                text = format_placement(placement, target)
                for end in range(len(text) + 1):
                    self.check_text(house, text[:end])
                if placement:
                    self.assert_raises(InvalidText, len(placement), parse_placement, house, text[:-1])
                self.assert_raises(InvalidText, len(placement), parse_placement, house, text + "\n")

    def test_changed_texts(self):
        source = random.Random(23)
        positions = {}
        for house, placement in SMALL_CASES[::80] + LARGE_CASES[::4]:
            target = list(targets_for(house, placement))[-1]
            for text in with_changes(format_placement(placement, target), source, 60):
                found = self.check_text(house, text)
                positions[found] = positions.get(found, 0) + 1
        self.assertGreater(min(positions[at] for at in (None, 0, 1, 2, 3, 4, 5, 6)), 10, positions)

    def test_wrong_lines(self):
        for line in (
            "ben 0", "ben", "", "ben 0 2 1", "ben 0 3", "ben 3 0", "ben 9 0", "ben 00 1", "ben 0 01", "ben -0 1", "ben  0 1",
            "ben 0  1", "ben 0 1 ", " ben 0 1", "Ben 0 1", "bEn 0 1", "ben1 0 1", "b-n 0 1", "abcdefghi 0 1", "ann 0 1",
            "amy 0 1", "a 0 1", "ben,0,1", "ben 0,1", "ben a b", "0 1 ben", "ben 0 1,", " 0 1", "ben\t0 1", "ben 0 \u0661",
            "b\u00e9n 0 1",
        ):
            self.assert_raises(InvalidText, 1, parse_placement, PATH_OF_3, "ann 0 1\n" + line + "\n")
            self.assert_raises(InvalidText, 1, parse_placement, PATH_OF_3, "ann 0 1\n" + line + "\ncid 0 1\n")
            if line:
                self.assert_raises(InvalidText, 1, parse_placement, PATH_OF_3, "ann 0 1\n" + line)

    def test_thirteen_people(self):
        lines = [f"{letter} 0 1\n" for letter in "abcdefghijklm"]
        self.assertEqual(len(parse_placement(PATH_OF_2, "".join(lines[:12]))[0]), 12)
        self.assert_raises(InvalidText, 12, parse_placement, PATH_OF_2, "".join(lines))
        self.assert_raises(InvalidText, 12, parse_placement, PATH_OF_2, "".join(lines)[:-1])

    def test_names_of_eight_and_nine_letters(self):
        self.assertEqual(parse_placement(PATH_OF_2, "abcdefgh 0 1\n")[0], (("abcdefgh", 0),))
        self.assert_raises(InvalidText, 0, parse_placement, PATH_OF_2, "abcdefghi 0 1\n")

    def test_duplicate_names_and_names_out_of_order(self):
        self.assert_raises(InvalidText, 1, parse_placement, PATH_OF_2, "ann 0 1\nann 0 1\n")
        self.assert_raises(InvalidText, 1, parse_placement, PATH_OF_2, "ben 0 1\nann 0 1\n")
        self.assertEqual(parse_placement(PATH_OF_2, "ann 0 1\nanna 1 0\n"), ((("ann", 0), ("anna", 1)), (("ann", 1), ("anna", 0))))

    def test_values_that_are_no_strings(self):
        for value in NO_STRINGS:
            self.assert_raises(InvalidText, None, parse_placement, PATH_OF_2, value)

    def test_the_order_of_the_target_does_not_matter_for_the_rooms(self):
        self.assertEqual(format_placement(place([1, 0]), place([0, 0])), "ann 1 0\nben 0 0\n")


if __name__ == "__main__":
    unittest.main()
