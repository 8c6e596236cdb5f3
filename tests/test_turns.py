import inspect
import unittest

from flagfloor.errors import NoTurn
from flagfloor.turns import corners, rises, turned
from tests.helper import (
    BLOCK, BLOCK_ACROSS, BLOCK_DOWN, BOARD, BOARD_ACROSS, BOARD_DOWN, RING, RING_ROUND, TOO_LONG_TO_SHOW, VERY_GREAT,
    keeps_laying_words, many_layings, rectangle, turn_by_words,
)

CORNERS = [(row, column) for row in range(1, 8) for column in range(1, 8)]
CORNERS_AND_BEYOND = [(row, column) for row in range(-2, 11) for column in range(-2, 11)]


class CornersTest(unittest.TestCase):
    def test_takes_floor_and_flags(self):
        self.assertEqual(list(inspect.signature(corners).parameters), ["floor", "flags"])

    def test_floors_without_a_turn(self):
        self.assertEqual(corners([], []), [])
        self.assertEqual(corners([(0, 0), (0, 1)], [(0, 0, 0)]), [])
        self.assertEqual(corners(RING, RING_ROUND), [])

    def test_block(self):
        self.assertEqual(corners(BLOCK, BLOCK_ACROSS), [(1, 1)])
        self.assertEqual(corners(BLOCK, BLOCK_DOWN), [(1, 1)])
        self.assertEqual(corners(rectangle(6, 6, 2, 2), [(6, 6, 0), (7, 6, 0)]), [(7, 7)])

    def test_flags_that_lie_side_by_side_but_shifted(self):
        self.assertEqual(corners([(0, 0), (0, 1), (1, 1), (1, 2)], [(0, 0, 0), (1, 1, 0)]), [])
        self.assertEqual(corners([(0, 0), (1, 0), (1, 1), (2, 1)], [(0, 0, 1), (1, 1, 1)]), [])
        self.assertEqual(corners(rectangle(0, 0, 1, 4), [(0, 0, 0), (0, 2, 0)]), [])

    def test_whole_board_by_rows_then_columns(self):
        odd_columns = [(row, column) for row in range(1, 8) for column in (1, 3, 5, 7)]
        odd_rows = [(row, column) for row in (1, 3, 5, 7) for column in range(1, 8)]
        self.assertEqual(corners(BOARD, BOARD_ACROSS), odd_columns)
        self.assertEqual(corners(BOARD, BOARD_DOWN), odd_rows)

    def test_words_of_the_document_on_many_layings(self):
        for floor, flags in many_layings(47):
            expected = [corner for corner in CORNERS if turn_by_words(flags, corner)]
            self.assertEqual(corners(floor, flags), expected)

    def test_answer_is_a_list_of_tuples(self):
        answer = corners(BOARD, BOARD_DOWN)
        self.assertIs(type(answer), list)
        self.assertEqual({type(corner) for corner in answer}, {tuple})


class TurnedTest(unittest.TestCase):
    def test_arguments(self):
        for function in (turned, rises):
            self.assertEqual(list(inspect.signature(function).parameters), ["floor", "flags", "corner"])

    def test_block(self):
        self.assertEqual(turned(BLOCK, BLOCK_ACROSS, (1, 1)), BLOCK_DOWN)
        self.assertEqual(turned(BLOCK, BLOCK_DOWN, (1, 1)), BLOCK_ACROSS)

    def test_all_other_flags_stay_and_the_order_is_kept(self):
        floor = rectangle(0, 0, 2, 4)
        self.assertEqual(
            turned(floor, [(0, 0, 1), (0, 1, 1), (0, 2, 0), (1, 2, 0)], (1, 1)),
            [(0, 0, 0), (0, 2, 0), (1, 0, 0), (1, 2, 0)],
        )
        self.assertEqual(
            turned(floor, [(0, 0, 1), (0, 1, 1), (0, 2, 0), (1, 2, 0)], (1, 3)),
            [(0, 0, 1), (0, 1, 1), (0, 2, 1), (0, 3, 1)],
        )

    def test_words_of_the_document_on_many_layings(self):
        turns = []
        for floor, flags in many_layings(47):
            for corner in corners(floor, flags):
                behind, rising = turn_by_words(flags, corner)
                self.assertEqual(turned(floor, flags, corner), behind)
                self.assertIs(rises(floor, flags, corner), rising)
                self.assertTrue(keeps_laying_words(floor, behind))
                turns.append((sum(corner) % 2, rising))
        self.assertEqual(set(turns), {(0, False), (0, True), (1, False), (1, True)})

    def test_turned_again_it_is_the_first_one(self):
        for floor, flags in many_layings(47):
            for corner in corners(floor, flags):
                behind = turned(floor, flags, corner)
                self.assertNotEqual(behind, flags)
                self.assertIn(corner, corners(floor, behind))
                self.assertEqual(turned(floor, behind, corner), flags)
                self.assertIs(rises(floor, behind, corner), not rises(floor, flags, corner))

    def test_holes_are_not_refused(self):
        floor = sorted(RING + rectangle(6, 0, 2, 2))
        flags = RING_ROUND + [(6, 0, 0), (7, 0, 0)]
        self.assertEqual(corners(floor, flags), [(7, 1)])
        self.assertEqual(turned(floor, flags, (7, 1)), RING_ROUND + [(6, 0, 1), (6, 1, 1)])
        self.assertIs(rises(floor, flags, (7, 1)), False)


class RisesTest(unittest.TestCase):
    def test_even_corner_rises_where_the_flags_lie_down(self):
        self.assertIs(rises(BLOCK, BLOCK_DOWN, (1, 1)), True)
        self.assertIs(rises(BLOCK, BLOCK_ACROSS, (1, 1)), False)

    def test_odd_corner_rises_where_the_flags_lie_across(self):
        floor = rectangle(0, 1, 2, 2)
        self.assertIs(rises(floor, [(0, 1, 0), (1, 1, 0)], (1, 2)), True)
        self.assertIs(rises(floor, [(0, 1, 1), (0, 2, 1)], (1, 2)), False)

    def test_whole_board(self):
        for corner in corners(BOARD, BOARD_ACROSS):
            self.assertIs(rises(BOARD, BOARD_ACROSS, corner), sum(corner) % 2 == 1)
        for corner in corners(BOARD, BOARD_DOWN):
            self.assertIs(rises(BOARD, BOARD_DOWN, corner), sum(corner) % 2 == 0)


class RefusedTest(unittest.TestCase):
    def assert_no_turn(self, floor, flags, corner):
        for function in (turned, rises):
            with self.assertRaises(NoTurn):
                function(floor, flags, corner)

    def test_each_other_corner_also_beyond_1_to_7(self):
        for floor, flags in many_layings(47):
            can = corners(floor, flags)
            for corner in CORNERS_AND_BEYOND:
                if corner not in can:
                    self.assert_no_turn(floor, flags, corner)

    def test_corners_counted_from_the_end_are_none(self):
        self.assert_no_turn(BOARD, BOARD_ACROSS, (-1, -1))
        self.assert_no_turn(BOARD, BOARD_ACROSS, (1, -1))
        self.assert_no_turn(BOARD, BOARD_DOWN, (-7, 1))

    def test_empty_floor(self):
        for corner in CORNERS_AND_BEYOND:
            self.assert_no_turn([], [], corner)

    def test_very_great_numbers(self):
        for number in (VERY_GREAT, -VERY_GREAT, TOO_LONG_TO_SHOW, -TOO_LONG_TO_SHOW):
            for corner in ((number, 1), (1, number), (number, number), (number, -number)):
                self.assert_no_turn(BLOCK, BLOCK_DOWN, corner)
                self.assert_no_turn(BOARD, BOARD_ACROSS, corner)
                self.assert_no_turn([], [], corner)


if __name__ == "__main__":
    unittest.main()
