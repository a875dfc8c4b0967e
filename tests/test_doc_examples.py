"""The examples of the document, as written there, and those of README.md."""

import doctest
import pathlib
import unittest

README = pathlib.Path(__file__).parent.parent / "README.md"
RAISES = "# raises "

SECTION_2 = """
>>> from fromwithin.houses import is_house
>>> [is_house((3, ((0, 1), (1, 2)))), is_house((3, ((0, 1), (0, 2), (1, 2))))]
[True, False]

>>> from fromwithin.houses import neighbors
>>> neighbors((4, ((0, 1), (1, 2), (2, 3))), 1)
(0, 2)

>>> from fromwithin.houses import path_between
>>> [path_between((4, ((0, 1), (1, 2), (2, 3))), 3, 1), path_between((3, ((0, 1),)), 0, 2)]
[(3, 2, 1), None]

>>> from fromwithin.houses import rooms_beyond
>>> rooms_beyond((4, ((0, 1), (1, 2), (2, 3))), 1, 2)
(2, 3)

>>> from fromwithin.houses import components
>>> components((4, ((0, 1), (1, 2), (2, 3))), (0, 2, 3))
((0,), (2, 3))
"""

SECTION_3 = """
>>> from fromwithin.placements import is_placement
>>> is_placement((2, ((0, 1),)), (("ann", 0), ("ben", 0)))
True

>>> from fromwithin.placements import is_target
>>> is_target((2, ((0, 1),)), (("ann", 0),), (("ben", 1),))
False

>>> from fromwithin.placements import room_of
>>> room_of((("ann", 0), ("ben", 1)), "ben")
1
>>> from fromwithin.placements import room_of
>>> room_of((("ann", 0), ("ben", 1)), "zoe")
# raises UnknownPerson('zoe')

>>> from fromwithin.placements import people_in
>>> people_in((("ann", 0), ("ben", 1), ("cid", 0)), 0)
('ann', 'cid')

>>> from fromwithin.placements import room_counts
>>> room_counts((3, ((0, 1),)), (("ann", 0), ("ben", 0)))
(2, 0, 0)

>>> from fromwithin.placements import empty_rooms
>>> empty_rooms((3, ((0, 1),)), (("ann", 0), ("ben", 0)))
(1, 2)
"""

SECTION_4 = """
>>> from fromwithin.regions import find_regions
>>> find_regions((4, ((0, 1), (1, 2), (2, 3))), (("ann", 0), ("ben", 1), ("cid", 3)))
((0, 1), (3,))

>>> from fromwithin.regions import region_of
>>> region_of((4, ((0, 1), (1, 2), (2, 3))), (("ann", 0), ("ben", 1), ("cid", 3)), 1)
(0, 1)
>>> from fromwithin.regions import region_of
>>> region_of((4, ((0, 1), (1, 2), (2, 3))), (("ann", 0), ("ben", 1), ("cid", 3)), 2)
# raises EmptyRoom(2)

>>> from fromwithin.regions import surplus
>>> surplus((("ann", 0), ("ben", 1), ("cid", 1)), (0, 1))
1

>>> from fromwithin.regions import is_tight
>>> is_tight((("ann", 0), ("ben", 1)), (0, 1))
True
"""

SECTION_5 = """
>>> from fromwithin.moves import move_person
>>> move_person((3, ((0, 1), (1, 2))), (("ann", 0), ("ben", 1)), "ann", 1)
(('ann', 1), ('ben', 1))
>>> from fromwithin.moves import move_person
>>> move_person((3, ((0, 1), (1, 2))), (("ann", 0), ("ben", 1)), "ben", 2)
# raises EmptyRoom(2)

>>> from fromwithin.moves import legal_moves
>>> legal_moves((3, ((0, 1), (1, 2))), (("ann", 0), ("ben", 1)))
(('ann', 1), ('ben', 0))

>>> from fromwithin.moves import apply_moves
>>> apply_moves((2, ((0, 1),)), (("ann", 0), ("ben", 1)), (("ann", 1), ("ann", 0)))
# raises InvalidMoves(1)

>>> from fromwithin.moves import reaches_target
>>> reaches_target((2, ((0, 1),)), (("ann", 0), ("ben", 1)), (("ann", 1), ("ben", 1)), (("ann", 1),))
True

>>> from fromwithin.moves import direct_moves
>>> direct_moves((3, ((0, 1), (1, 2))), (("ann", 0), ("ben", 1), ("cid", 2)), "ann", 2)
(('ann', 1), ('ann', 2))
"""

SECTION_6 = """
>>> from fromwithin.tight import people_outside
>>> people_outside((3, ((0, 1), (1, 2))), (("ann", 0), ("cid", 2)), (("ann", 1), ("cid", 2)))
('ann',)

>>> from fromwithin.tight import people_passing
>>> people_passing((3, ((0, 1), (1, 2))), (("ann", 0), ("ben", 1), ("cid", 2)), (("ann", 2), ("ben", 1), ("cid", 2)), 1)
('ann',)

>>> from fromwithin.tight import next_toward_target
>>> next_toward_target((3, ((0, 1), (1, 2))), (("ann", 0), ("ben", 1), ("cid", 2)), (("ann", 2), ("ben", 1), ("cid", 2)), "ann")
1

>>> from fromwithin.tight import free_rooms
>>> free_rooms((3, ((0, 1), (1, 2))), (("ann", 0), ("ben", 1), ("cid", 2)), (("ann", 0), ("ben", 2), ("cid", 2)), (0, 1, 2))
(1,)

>>> from fromwithin.tight import is_solvable
>>> [is_solvable((3, ((0, 1), (1, 2))), (("ann", 0), ("ben", 1), ("cid", 2)), (("ann", 0), ("ben", 2), ("cid", 2)), (0, 1, 2)), is_solvable((2, ((0, 1),)), (("ann", 0), ("ben", 1)), (("ann", 1), ("ben", 0)), (0, 1))]
[True, False]
"""

SECTION_7 = """
>>> from fromwithin.blocks import find_certificate
>>> find_certificate((3, ((0, 1), (1, 2))), (("ann", 0), ("ben", 1), ("cid", 2)), (("ann", 0), ("ben", 2), ("cid", 0)), (0, 1, 2))
((1, 'passed', 'cid'),)

>>> from fromwithin.blocks import is_certificate
>>> house = (5, ((0, 1), (1, 2), (2, 3), (3, 4)))
>>> placement = (("ann", 0), ("ben", 1), ("cid", 2), ("dan", 3), ("eve", 4))
>>> target = (("ann", 1), ("ben", 0), ("cid", 3), ("dan", 3), ("eve", 4))
>>> is_certificate(house, placement, target, (0, 1, 2, 3, 4), ((2, "back", 1),))
True

>>> from fromwithin.blocks import find_block
>>> find_block((3, ((0, 1), (1, 2))), (("ann", 0), ("ben", 1), ("cid", 2)), (("ann", 0), ("ben", 2), ("cid", 0)))
('stuck', 0, ((1, 'passed', 'cid'),))

>>> from fromwithin.blocks import is_block
>>> is_block((3, ((0, 1), (1, 2))), (("ann", 0), ("cid", 2)), (("ann", 1), ("cid", 2)), ("outside", "cid"))
False

>>> from fromwithin.blocks import stuck_regions
>>> stuck_regions((3, ((0, 1), (1, 2))), (("ann", 0), ("ben", 1), ("cid", 2)), (("ann", 0), ("ben", 2), ("cid", 0)))
((0, 1, 2),)
"""

SECTION_8 = """
>>> from fromwithin.moves import reaches_target
>>> from fromwithin.plans import find_plan
>>> house, placement = (3, ((0, 1), (1, 2))), (("ann", 0), ("ben", 1), ("cid", 2))
>>> target = (("ann", 0), ("ben", 2), ("cid", 2))
>>> reaches_target(house, placement, target, find_plan(house, placement, target))
True
>>> from fromwithin.plans import find_plan
>>> find_plan((2, ((0, 1),)), (("ann", 0), ("ben", 1)), (("ann", 1), ("ben", 0)))
# raises Blocked(('stuck', 0, ()))

>>> from fromwithin.plans import solve
>>> solve((2, ((0, 1),)), (("ann", 0), ("ben", 1)), (("ann", 1), ("ben", 0)))
('block', ('stuck', 0, ()))

>>> from fromwithin.plans import is_answer
>>> is_answer((2, ((0, 1),)), (("ann", 0), ("ben", 1)), (("ann", 1), ("ben", 1)), ("plan", (("ann", 1),)))
True

>>> from fromwithin.moves import apply_moves
>>> from fromwithin.plans import swap_people
>>> house, placement = (2, ((0, 1),)), (("ann", 0), ("ben", 1), ("cid", 1))
>>> apply_moves(house, placement, swap_people(house, placement, "ann", "ben"))
(('ann', 1), ('ben', 0), ('cid', 1))
>>> from fromwithin.plans import swap_people
>>> swap_people((2, ((0, 1),)), (("ann", 0), ("ben", 1)), "ann", "ben")
# raises TightRegion(0)
"""

SECTION_9 = """
>>> from fromwithin.emptying import first_rooms
>>> [first_rooms((3, ((0, 1), (1, 2))), (("ann", 0), ("ben", 1), ("cid", 2)), (("ann", 0), ("ben", 2), ("cid", 2))), first_rooms((3, ((0, 1), (1, 2))), (("ann", 0), ("ben", 1), ("cid", 2), ("dan", 2)), (("ann", 0), ("ben", 0), ("cid", 0), ("dan", 0)))]
[(1,), (2,)]

>>> from fromwithin.emptying import can_empty_in_order
>>> house, placement = (3, ((0, 1), (1, 2))), (("ann", 0), ("ben", 1), ("cid", 2), ("dan", 2))
>>> target = (("ann", 0), ("ben", 0), ("cid", 0), ("dan", 0))
>>> [can_empty_in_order(house, placement, target, (2, 1)), can_empty_in_order(house, placement, target, (1, 2))]
[True, False]

>>> from fromwithin.emptying import count_orders
>>> house = (4, ((0, 1), (0, 2), (0, 3)))
>>> placement = (("ann", 0), ("ben", 1), ("cid", 2), ("dan", 3), ("eve", 0))
>>> target = (("ann", 0), ("ben", 0), ("cid", 0), ("dan", 0), ("eve", 0))
>>> count_orders(house, placement, target)
6

>>> from fromwithin.emptying import safe_moves
>>> safe_moves((3, ((0, 1), (1, 2))), (("ann", 0), ("ben", 1), ("cid", 2)), (("ann", 0), ("ben", 2), ("cid", 2)))
(('ben', 2),)

>>> from fromwithin.emptying import helper_rooms
>>> helper_rooms((2, ((0, 1),)), (("ann", 0), ("ben", 1)), (("ann", 1), ("ben", 0)))
(0,)
"""

SECTION_10 = """
>>> from fromwithin.classes import mutually_reachable
>>> mutually_reachable((2, ((0, 1),)), (("ann", 0), ("ben", 1), ("cid", 1)), (("ann", 1), ("ben", 0), ("cid", 1)))
True

>>> from fromwithin.classes import class_size
>>> class_size((2, ((0, 1),)), (("ann", 0), ("ben", 1), ("cid", 1)))
6

>>> from fromwithin.classes import count_reachable
>>> count_reachable((2, ((0, 1),)), (("ann", 0), ("ben", 1), ("cid", 1)))
8
>>> from fromwithin.classes import count_reachable
>>> count_reachable((2, ((0, 1),)), (("ann", 0), ("ben", 1)))
# raises TightRegion(0)
"""

SECTION_11 = """
>>> from fromwithin.anonymous import find_count_block
>>> [find_count_block((3, ((0, 1), (1, 2))), (1, 0, 2), (1, 1, 1)), find_count_block((3, ((0, 1), (1, 2))), (1, 1, 2), (2, 1, 0))]
[('empty', 1), ('unbalanced', 0)]

>>> from fromwithin.anonymous import is_count_block
>>> [is_count_block((3, ((0, 1), (1, 2))), (1, 0, 2), (1, 1, 1), ("unbalanced", 2)), is_count_block((3, ((0, 1), (1, 2))), (1, 0, 2), (1, 1, 1), ("unbalanced", 0))]
[True, False]

>>> from fromwithin.anonymous import net_flows
>>> net_flows((3, ((0, 1), (1, 2))), (1, 1, 2), (4, 0, 0))
((0, 1, -3), (1, 2, -2))

>>> from fromwithin.anonymous import fewest_moves
>>> fewest_moves((3, ((0, 1), (1, 2))), (1, 1, 2), (4, 0, 0))
5

>>> from fromwithin.anonymous import flow_plan
>>> flow_plan((3, ((0, 1), (1, 2))), (1, 1, 2), (4, 0, 0))
((2, 2, 1), (3, 1, 0))

>>> from fromwithin.anonymous import flows_reach_target
>>> flows_reach_target((2, ((0, 1),)), (1, 1), (0, 2), ((1, 0, 1),))
True
"""

SECTION_12 = """
>>> from fromwithin.sessions import Session
>>> Session(5, ())
# raises InvalidHouse

>>> from fromwithin.sessions import Session
>>> session = Session((2, ((0, 1),)), (("ann", 0), ("ben", 1)))
>>> session.move("ann", 1)
>>> session.placement()
(('ann', 1), ('ben', 1))

>>> from fromwithin.sessions import Session
>>> session = Session((2, ((0, 1),)), (("ann", 0), ("ben", 1)))
>>> session.enter("cid", 1)
>>> session.targets()
(('ann', 0), ('ben', 1), ('cid', 1))

>>> from fromwithin.sessions import Session
>>> session = Session((2, ((0, 1),)), (("ann", 0), ("ben", 1)))
>>> session.leave("ann")
>>> session.placement()
(('ben', 1),)

>>> from fromwithin.sessions import Session
>>> session = Session((2, ((0, 1),)), (("ann", 0), ("ben", 1)))
>>> session.set_target("ann", 1)
>>> session.targets()
(('ann', 1), ('ben', 1))

>>> from fromwithin.sessions import Session
>>> session = Session((3, ((0, 1),)), ())
>>> session.add_door(2, 1)
>>> session.house()
(3, ((0, 1), (1, 2)))
>>> from fromwithin.sessions import Session
>>> session = Session((3, ((0, 1), (1, 2))), ())
>>> session.add_door(0, 2)
# raises WouldFormCycle(2)

>>> from fromwithin.sessions import Session
>>> session = Session((3, ((0, 1), (1, 2))), ())
>>> session.remove_door(1, 0)
>>> session.house()
(3, ((1, 2),))

>>> from fromwithin.sessions import Session
>>> session = Session((1, ()), (("ann", 0),))
>>> session.add_room("ann")
>>> [session.house(), session.placement(), session.targets()]
[(2, ((0, 1),)), (('ann', 1),), (('ann', 0),)]

>>> from fromwithin.sessions import Session
>>> session = Session((2, ((0, 1),)), (("ann", 0), ("ben", 1)))
>>> session.move("ann", 1)
>>> session.undo()
>>> [session.placement(), len(session)]
[(('ann', 0), ('ben', 1)), 0]

>>> from fromwithin.sessions import GuardedSession
>>> session = GuardedSession((2, ((0, 1),)), (("ann", 0), ("ben", 1)))
>>> session.set_target("ann", 1)
>>> session.set_target("ben", 0)
# raises Blocked(('stuck', 0, ()))

>>> from fromwithin.sessions import Session
>>> session = Session((2, ((0, 1),)), (("ann", 0), ("ben", 1)))
>>> session.run_batch((("move", "ann", 1), ("leave", "zoe")))
# raises BatchFailed(1)

>>> from fromwithin.sessions import Session
>>> session = Session((2, ((0, 1),)), (("ann", 0), ("ben", 1)))
>>> session.run_batch((("move", "ann", 1),))
>>> session.log()
(('begin', 1), ('end', 1))

>>> from fromwithin.sessions import Session
>>> session = Session((2, ((0, 1),)), (("ann", 0), ("ben", 1)))
>>> session.move("ann", 1)
>>> [session.placement(), session.placement(moment=0), session.actions()]
[(('ann', 1), ('ben', 1)), (('ann', 0), ('ben', 1)), (('move', 'ann', 1),)]

>>> from fromwithin.sessions import Session
>>> session = Session((2, ((0, 1),)), (("ann", 0), ("ben", 1)))
>>> session.set_target("ann", 1)
>>> session.set_target("ben", 0)
>>> [session.blocked_by(moment=1), session.blocked_by()]
[None, ('stuck', 0, ())]

>>> from fromwithin.sessions import Session
>>> session = Session((2, ((0, 1),)), (("ann", 0), ("ben", 1)))
>>> other = session.copy()
>>> session.move("ann", 1)
>>> [other == session, str(session), len(other)]
[False, '2 rooms, 1 doors, 2 people, 1 actions', 0]
"""

SECTION_13 = r"""
>>> from fromwithin.texts import format_house
>>> format_house((3, ((0, 1), (1, 2))))
'rooms 3\ndoor 0 1\ndoor 1 2\n'

>>> from fromwithin.texts import format_placement
>>> format_placement((("ann", 0),), (("ann", 2),))
'ann 0 2\n'

>>> from fromwithin.texts import parse_house
>>> parse_house("rooms 3\ndoor 0 1\n")
(3, ((0, 1),))
>>> from fromwithin.texts import parse_house
>>> parse_house("rooms 3\ndoor 0 3\n")
# raises InvalidText(1)
>>> from fromwithin.texts import parse_house
>>> parse_house("rooms 3\ndoor 0")
# raises InvalidText(1)
>>> from fromwithin.texts import parse_house
>>> parse_house("rooms 3\ndoor 0 1")
# raises InvalidText(2)

>>> from fromwithin.texts import parse_placement
>>> parse_placement((2, ((0, 1),)), "ann 0 1\nben 1 1\n")
((('ann', 0), ('ben', 1)), (('ann', 1), ('ben', 1)))
"""

SECTION_14 = """
>>> from fromwithin.consoles import Console
>>> from fromwithin.sessions import Session
>>> console = Console(Session((2, ((0, 1),)), (("ann", 0), ("ben", 1))))
>>> [console.execute("target ann 1"), console.execute("move ann 1"), console.execute("where")]
['ok', 'ok', 'ann 1, ben 1']
>>> from fromwithin.consoles import Console
>>> from fromwithin.sessions import Session
>>> console = Console(Session((2, ((0, 1),)), (("ann", 0), ("ben", 1))))
>>> [console.execute("jump ann"), console.execute("move zoe 1"), console.execute("first")]
['error InvalidLine', 'error UnknownPerson', '-']

>>> from fromwithin.consoles import Console
>>> from fromwithin.sessions import Session
>>> console = Console(Session((2, ((0, 1),)), (("ann", 0), ("ben", 1))))
>>> answer = console.execute("regions")
>>> console.transcript()
(('regions', '0 1'),)
"""


def shown(error):
    """An error as the document writes it."""
    fields = ", ".join(repr(value) for value in vars(error).values())
    return type(error).__name__ + (f"({fields})" if fields else "")


def outcome(example, names):
    """What an example returns or raises, as the document writes it."""
    try:
        return repr(eval(example.source, names)) + "\n"
    except ValueError as error:
        return RAISES + shown(error) + "\n"


class DocExamplesTest(unittest.TestCase):
    def check_examples(self, text, calls):
        examples = doctest.DocTestParser().get_examples(text)
        self.assertEqual(len([example for example in examples if example.want]), calls)
        names = {}
        for example in examples:
            if example.want:
                self.assertEqual(outcome(example, names), example.want, example.source)
            else:
                exec(example.source, names)

    def test_section_2(self):
        self.check_examples(SECTION_2, 5)

    def test_section_3(self):
        self.check_examples(SECTION_3, 7)

    def test_section_4(self):
        self.check_examples(SECTION_4, 5)

    def test_section_5(self):
        self.check_examples(SECTION_5, 6)

    def test_section_6(self):
        self.check_examples(SECTION_6, 5)

    def test_section_7(self):
        self.check_examples(SECTION_7, 5)

    def test_section_8(self):
        self.check_examples(SECTION_8, 6)

    def test_section_9(self):
        self.check_examples(SECTION_9, 5)

    def test_section_10(self):
        self.check_examples(SECTION_10, 4)

    def test_section_11(self):
        self.check_examples(SECTION_11, 6)

    def test_section_12(self):
        self.check_examples(SECTION_12, 16)

    def test_section_13(self):
        self.check_examples(SECTION_13, 7)

    def test_section_14(self):
        self.check_examples(SECTION_14, 3)

    def test_readme(self):
        self.check_examples(README.read_text(encoding="utf-8"), 44)


if __name__ == "__main__":
    unittest.main()
