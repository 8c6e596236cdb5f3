"""What the document promises over the whole program: refusals and their order, and whose the lists are."""

import copy
import inspect
import unittest

from flagfloor.counts import number_of, told, ways
from flagfloor.errors import FloorError, NoFloor, NoLaying, NoNote, NoNumber, NotPlain, NoTurn
from flagfloor.floors import inner, is_plain
from flagfloor.gaps import gaps, highest, lower, lowest, upper, way
from flagfloor.layings import is_laying, lay
from flagfloor.notes import read, shown
from flagfloor.turns import corners, rises, turned
from tests.helper import (
    BLOCK, BLOCK_ACROSS, BLOCK_DOWN, BOARD, BOARD_ACROSS, BOARD_DOWN, HOLED_FLOORS, NO_FLOORS, RING, RING_ROUND,
    TOO_LONG_TO_SHOW, VERY_GREAT, note_by_words, rectangle, without,
)

FUNCTIONS = {
    is_plain: ["floor"],
    inner: ["floor"],
    is_laying: ["floor", "flags"],
    lay: ["floor"],
    ways: ["floor"],
    told: ["floor", "number"],
    number_of: ["floor", "flags"],
    corners: ["floor", "flags"],
    turned: ["floor", "flags", "corner"],
    rises: ["floor", "flags", "corner"],
    gaps: ["floor", "ones", "others"],
    way: ["floor", "ones", "others"],
    upper: ["floor", "ones", "others"],
    lower: ["floor", "ones", "others"],
    highest: ["floor", "flags"],
    lowest: ["floor", "flags"],
    shown: ["floor", "flags"],
    read: ["text"],
}
OF_GAPS = (gaps, way, upper, lower, highest, lowest)
TAKE_FLOOR = [function for function, names in FUNCTIONS.items() if "floor" in names]
TAKE_LAYING = [function for function, names in FUNCTIONS.items() if {"flags", "ones"} & set(names)]
REFUSE_LAYING = [function for function in TAKE_LAYING if function != is_laying]
NO_LAYINGS = {
    "none": [],
    "one left out": [(0, 0, 0)],
    "out of order": [(1, 0, 0), (0, 0, 0)],
    "twice": [(0, 0, 0), (0, 0, 0)],
    "twice and one more": [(0, 0, 0), (0, 0, 0), (1, 0, 0)],
    "across and down": [(0, 0, 0), (0, 0, 1)],
    "overlapping": [(0, 0, 0), (0, 1, 1)],
    "way 2": [(0, 0, 0), (1, 0, 2)],
    "way -1": [(0, 0, -1), (0, 1, -1)],
    "one too many": [(0, 0, 0), (1, 0, 0), (4, 4, 0)],
    "beyond the board": [(0, -1, 0), (0, 1, 1), (1, -1, 0)],
    "very great": [(0, 0, 0), (1, 0, 0), (VERY_GREAT, VERY_GREAT, 0)],
    "too long to show": [(-TOO_LONG_TO_SHOW, 0, 1), (0, 0, 0), (1, 0, 0)],
    "way too long to show": [(0, 0, TOO_LONG_TO_SHOW), (1, 0, 0)],
}


def case(floor, ones, others, corner, number):
    """What to hand in, by the names of the interface, all of it new."""
    return copy.deepcopy({
        "floor": floor, "flags": ones, "ones": ones, "others": others, "corner": corner, "number": number,
        "text": note_by_words(floor, ones),
    })


def good_cases():
    """Nothing in them is refused but what has a hole, or no turn."""
    two = sorted(BLOCK + rectangle(3, 4, 2, 2))
    return [
        case([], [], [], (1, 1), 0),
        case(BLOCK, BLOCK_ACROSS, BLOCK_DOWN, (1, 1), 1),
        case(BLOCK, BLOCK_DOWN, BLOCK_DOWN, (1, 1), 0),
        case(two, BLOCK_ACROSS + [(3, 4, 1), (3, 5, 1)], BLOCK_DOWN + [(3, 4, 0), (4, 4, 0)], (4, 5), 3),
        case([(2, 2), (2, 3)], [(2, 2, 0)], [(2, 2, 0)], (3, 3), 0),
        case(RING, RING_ROUND, [(2, 3, 1), (2, 4, 0), (3, 5, 1), (4, 3, 0)], (3, 4), 1),
        case(BOARD, BOARD_ACROSS, BOARD_DOWN, (7, 7), 6000000),
        case(BOARD, BOARD_DOWN, BOARD_DOWN, (1, 2), 12988815),
    ]


def bad_cases():
    """Something in each of them is refused."""
    return [
        case([(0, 1), (0, 0)], [(0, 0, 0)], [], (0, 0), -1),
        case([(3, 3)], [(3, 3, 0)], [], (0, 0), 0),
        case(BLOCK, [(1, 0, 0), (0, 0, 0)], [(0, 1, 1), (0, 0, 1)], (9, 9), 2),
        case(RING, RING_ROUND[:-1], [], (-1, 1), 2),
        case(BOARD, BOARD_ACROSS[:-1], BOARD_DOWN[1:], (0, 8), VERY_GREAT),
    ]


def ask(function, handed):
    return function(*[handed[name] for name in FUNCTIONS[function]])


def refusal(function, handed):
    """The class of the refusal, or None where there is none."""
    try:
        ask(function, handed)
    except FloorError as error:
        return error.__class__
    return None


def lists_in(answer):
    """All lists of an answer, wherever they stand in it."""
    if not isinstance(answer, (list, tuple)):
        return []
    found = [answer] if isinstance(answer, list) else []
    for part in answer:
        found.extend(lists_in(part))
    return found


class InterfaceTest(unittest.TestCase):
    def test_arguments(self):
        for function, names in FUNCTIONS.items():
            self.assertEqual(list(inspect.signature(function).parameters), names)


class NoFloorTest(unittest.TestCase):
    def test_from_each_function_that_takes_a_floor_ahead_of_all_else(self):
        for words, squares in NO_FLOORS.items():
            for flags in ([], [(0, 0, 0)], [(9, 9, 9)], [(0, 7, 0)], [(1, 0, 0), (0, 0, 0)]):
                for corner, number in (((1, 1), 0), ((0, 9), -1)):
                    handed = dict(case([], flags[:0], flags, corner, number), floor=squares, flags=flags, ones=flags)
                    for function in TAKE_FLOOR:
                        with self.subTest(function=function.__name__, squares=words, flags=flags):
                            self.assertIs(refusal(function, handed), NoFloor)

    def test_also_where_the_flags_would_cover_the_list(self):
        for squares, flags in (
            ([(0, 7), (0, 8)], [(0, 7, 0)]),
            ([(7, 0), (8, 0)], [(7, 0, 1)]),
            ([(-1, 0), (0, 0)], [(-1, 0, 1)]),
            ([(0, 1), (0, 0)], [(0, 0, 0)]),
            ([(0, 0), (0, 0), (0, 1), (0, 1)], [(0, 0, 0), (0, 0, 0)]),
            ([(0, 0), (1, 0), (0, 1), (1, 1)], BLOCK_ACROSS),
        ):
            handed = dict(case([], [], flags, (1, 1), 0), floor=squares, flags=flags, ones=flags)
            for function in TAKE_FLOOR:
                self.assertIs(refusal(function, handed), NoFloor)

    def test_ahead_of_not_plain(self):
        for squares in (RING + [(7, 7), (7, 7)], RING[::-1], RING + [(8, 0)], [(0, -1)] + RING):
            handed = dict(case([], [], RING_ROUND, (9, 9), -1), floor=squares, flags=RING_ROUND, ones=RING_ROUND)
            for function in TAKE_FLOOR:
                self.assertIs(refusal(function, handed), NoFloor)


class NotPlainTest(unittest.TestCase):
    def test_from_each_function_of_gaps_and_from_no_other_one(self):
        for floor in HOLED_FLOORS:
            word, flags = lay(floor)
            self.assertEqual(word, "laid")
            handed = case(floor, flags, flags, (4, 4), 1)
            for function in FUNCTIONS:
                allowed = (NotPlain,) if function in OF_GAPS else (None, NoTurn)
                self.assertIn(refusal(function, handed), allowed)

    def test_with_holes_and_no_laying(self):
        for floor in (without(BOARD, (3, 3)), RING + [(7, 7)], without(rectangle(0, 0, 4, 4), (1, 1), (2, 2))):
            handed = case(floor, [], [], (4, 4), 0)
            for function in FUNCTIONS:
                allowed = (NotPlain,) if function in OF_GAPS else (None, NoLaying, NoNumber)
                self.assertIn(refusal(function, handed), allowed)

    def test_ahead_of_no_laying(self):
        for floor in HOLED_FLOORS:
            flags = lay(floor)[1]
            for ones, others in ((flags[1:], flags), (flags, flags[1:]), (flags[::-1], []), ([(9, 9, 9)], [])):
                handed = dict(case(floor, flags, others, (1, 1), 0), ones=ones, flags=ones)
                for function in OF_GAPS:
                    self.assertIs(refusal(function, handed), NotPlain)

    def test_plain_floors_are_not_refused(self):
        for handed in good_cases():
            if is_plain(handed["floor"]):
                for function in OF_GAPS:
                    self.assertIsNone(refusal(function, handed))

    def test_hole_that_touches_the_outside_over_a_corner(self):
        floor = without(RING, (2, 3), (2, 4))
        flags = [(2, 5, 1), (3, 3, 1), (4, 4, 0)]
        handed = case(floor, flags, flags, (1, 1), 0)
        for function in OF_GAPS:
            self.assertIsNone(refusal(function, handed))


class NoLayingTest(unittest.TestCase):
    def test_from_each_function_that_takes_a_laying_but_is_laying(self):
        for words, flags in NO_LAYINGS.items():
            handed = dict(case(BLOCK, BLOCK_DOWN, flags, (1, 1), 0), flags=flags, ones=flags)
            for function in REFUSE_LAYING:
                with self.subTest(function=function.__name__, flags=words):
                    self.assertIs(refusal(function, handed), NoLaying)
            self.assertIs(is_laying(BLOCK, flags), False)

    def test_one_of_two_is_enough(self):
        for words, flags in NO_LAYINGS.items():
            for handed in (
                dict(case(BLOCK, BLOCK_DOWN, BLOCK_DOWN, (1, 1), 0), ones=flags),
                dict(case(BLOCK, BLOCK_DOWN, BLOCK_DOWN, (1, 1), 0), others=flags),
            ):
                for function in (gaps, way, upper, lower):
                    with self.subTest(function=function.__name__, flags=words):
                        self.assertIs(refusal(function, handed), NoLaying)

    def test_floors_without_a_laying_and_the_empty_floor(self):
        for floor, flags in (([(3, 3)], []), ([(3, 3)], [(3, 3, 0)]), ([], [(0, 0, 0)]), (BOARD[1:-1], BOARD_ACROSS)):
            handed = dict(case(floor, [], flags, (1, 1), 0), flags=flags, ones=flags)
            for function in REFUSE_LAYING:
                self.assertIs(refusal(function, handed), NoLaying)

    def test_laying_of_another_floor(self):
        handed = dict(case(BLOCK, BLOCK_DOWN, RING_ROUND, (1, 1), 0), flags=RING_ROUND, ones=RING_ROUND)
        for function in REFUSE_LAYING:
            self.assertIs(refusal(function, handed), NoLaying)

    def test_holes_do_not_hinder_it(self):
        handed = case(RING, RING_ROUND[1:], [], (1, 1), 0)
        for function in REFUSE_LAYING:
            self.assertIs(refusal(function, handed), NotPlain if function in OF_GAPS else NoLaying)

    def test_ahead_of_no_turn(self):
        for words, flags in NO_LAYINGS.items():
            for corner in ((0, 0), (1, 2), (8, 8), (VERY_GREAT, -VERY_GREAT)):
                handed = dict(case(BLOCK, BLOCK_DOWN, [], corner, 0), flags=flags)
                for function in (turned, rises):
                    self.assertIs(refusal(function, handed), NoLaying)


class NoNumberAndNoTurnTest(unittest.TestCase):
    def test_no_number_from_told(self):
        for floor, number in (([], 1), ([], -1), (BLOCK, 2), (BLOCK, -1), (RING, 2), (RING, -1), ([(0, 0)], 0)):
            self.assertIs(refusal(told, case(floor, [], [], (1, 1), number)), NoNumber)

    def test_no_turn_from_turned_and_rises(self):
        for function in (turned, rises):
            for corner in ((0, 0), (1, 2), (2, 1), (0, 1), (8, 8), (-1, -1)):
                self.assertIs(refusal(function, case(BLOCK, BLOCK_DOWN, [], corner, 0)), NoTurn)
            self.assertIs(refusal(function, case(RING, RING_ROUND, [], (3, 4), 0)), NoTurn)

    def test_no_note_from_read(self):
        self.assertIs(refusal(read, {"text": ""}), NoNote)
        self.assertIs(refusal(read, {"text": "........\n" * 8}), NoNote)

    def test_no_other_refusals_from_what_is_good(self):
        for handed in good_cases():
            plain = is_plain(handed["floor"])
            turns = handed["corner"] in corners(handed["floor"], handed["flags"])
            for function in FUNCTIONS:
                expected = None
                if function in OF_GAPS and not plain:
                    expected = NotPlain
                if function in (turned, rises) and not turns:
                    expected = NoTurn
                self.assertIs(refusal(function, handed), expected)


class HandedInTest(unittest.TestCase):
    def test_what_is_handed_in_stays_as_it_was(self):
        for handed in good_cases() + bad_cases():
            before = copy.deepcopy(handed)
            for function in FUNCTIONS:
                refusal(function, handed)
                self.assertEqual(handed, before, function.__name__)

    def test_one_list_handed_in_twice(self):
        for handed in good_cases():
            handed["others"] = handed["ones"]
            before = copy.deepcopy(handed)
            for function in OF_GAPS:
                if refusal(function, handed) is None:
                    answer = ask(function, handed)
                    self.assertEqual(handed, before)
                    self.assertTrue(all(one is not handed["ones"] for one in lists_in(answer)))

    def test_no_list_told_is_one_that_was_handed_in_or_told_before(self):
        for function in FUNCTIONS:
            for handed in good_cases():
                if refusal(function, handed) is None:
                    answers = (ask(function, handed), ask(function, handed))
                    lists = lists_in(answers)
                    self.assertEqual(len({id(one) for one in lists}), len(lists), function.__name__)
                    for one in lists:
                        self.assertTrue(all(one is not other for other in handed.values()), function.__name__)

    def test_what_was_told_may_be_changed(self):
        for function in FUNCTIONS:
            for handed in good_cases():
                if refusal(function, handed) is None:
                    before = copy.deepcopy(handed)
                    answer = ask(function, handed)
                    kept = copy.deepcopy(answer)
                    for one in lists_in(answer):
                        one.append("changed")
                        one.reverse()
                    self.assertEqual(ask(function, handed), kept, function.__name__)
                    self.assertEqual(handed, before, function.__name__)

    def test_what_was_handed_in_may_be_changed_later(self):
        for function in FUNCTIONS:
            for handed in good_cases():
                if refusal(function, handed) is None:
                    again = copy.deepcopy(handed)
                    answer = ask(function, handed)
                    kept = copy.deepcopy(answer)
                    for name in ("floor", "flags", "ones", "others"):
                        handed[name].clear()
                    self.assertEqual(answer, kept, function.__name__)
                    self.assertEqual(ask(function, again), kept, function.__name__)

    def test_changed_floor_is_looked_at_anew(self):
        floor = list(BLOCK)
        self.assertEqual(ways(floor), 2)
        floor.extend([(2, 0), (2, 1)])
        self.assertEqual(ways(floor), 3)
        del floor[:4]
        self.assertEqual(told(floor, 0), [(2, 0, 0)])
        flags = list(BLOCK_DOWN)
        self.assertEqual(corners(BLOCK, flags), [(1, 1)])
        flags.pop()
        self.assertIs(refusal(corners, case(BLOCK, flags, [], (1, 1), 0)), NoLaying)


if __name__ == "__main__":
    unittest.main()
