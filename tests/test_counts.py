import inspect
import unittest

from flagfloor.counts import number_of, told, ways
from flagfloor.errors import NoLaying, NoNumber
from tests.helper import (
    BLOCK, BOARD, BOARD_ACROSS, BOARD_DOWN, HOLED_FLOORS, PLAIN_FLOORS, RING, RING_ROUND, TOO_LONG_TO_SHOW,
    VERY_GREAT, comes_first, drawn, floors_within, great_numbers, keeps_laying_words, layings_one_by_one, rectangle,
    scattered_layings, without,
)

BOARD_WAYS = 12988816
FEW = [floor for floor in PLAIN_FLOORS + HOLED_FLOORS if len(floor) <= 24]


class WaysTest(unittest.TestCase):
    def test_takes_floor(self):
        self.assertEqual(list(inspect.signature(ways).parameters), ["floor"])

    def test_empty_floor(self):
        self.assertEqual(ways([]), 1)

    def test_one_square_anywhere(self):
        for square in BOARD:
            self.assertEqual(ways([square]), 0)

    def test_two_squares(self):
        self.assertEqual(ways([(2, 3), (2, 4)]), 1)
        self.assertEqual(ways([(2, 3), (3, 3)]), 1)
        self.assertEqual(ways([(2, 3), (3, 4)]), 0)
        self.assertEqual(ways([(2, 3), (2, 5)]), 0)

    def test_no_flag_goes_round_the_edge_of_the_board(self):
        for floor in ([(0, 7), (1, 0)], [(0, 0), (0, 7)], [(0, 0), (7, 0)], [(6, 7), (7, 0)], [(0, 0), (7, 7)]):
            self.assertEqual(ways(floor), 0)

    def test_two_whole_rows(self):
        for top in range(7):
            self.assertEqual(ways(rectangle(top, 0, 2, 8)), 34)
            self.assertEqual(ways(rectangle(0, top, 8, 2)), 34)

    def test_two_rows_of_any_length(self):
        for columns, expected in zip(range(1, 9), (1, 2, 3, 5, 8, 13, 21, 34)):
            self.assertEqual(ways(rectangle(3, 8 - columns, 2, columns)), expected)
            self.assertEqual(ways(rectangle(8 - columns, 3, columns, 2)), expected)

    def test_two_rows_with_a_row_between(self):
        self.assertEqual(ways(rectangle(0, 0, 1, 8) + rectangle(2, 0, 1, 8)), 1)
        self.assertEqual(ways(rectangle(0, 0, 2, 8) + rectangle(3, 0, 2, 8)), 34 * 34)

    def test_rectangles(self):
        for rows, columns, expected in ((3, 4, 11), (4, 4, 36), (4, 8, 2245), (6, 6, 6728), (6, 8, 167089)):
            self.assertEqual(ways(rectangle(0, 0, rows, columns)), expected)
            self.assertEqual(ways(rectangle(8 - columns, 8 - rows, columns, rows)), expected)
        self.assertEqual(ways(rectangle(0, 0, 7, 7)), 0)

    def test_whole_board(self):
        self.assertEqual(ways(BOARD), BOARD_WAYS)

    def test_asked_twice_alike(self):
        for floor in (BOARD, RING, [], [(1, 1)], rectangle(0, 0, 4, 4)):
            self.assertEqual(ways(floor), ways(floor))
        self.assertEqual(ways(BOARD), BOARD_WAYS)

    def test_floor_that_is_not_plain_is_not_refused(self):
        self.assertEqual(ways(RING), 2)
        self.assertEqual(ways(without(RING, (2, 3))), 0)

    def test_floors_with_as_many_even_squares_as_odd_ones_and_no_laying(self):
        self.assertEqual(ways(drawn("###", ".#.", ".#.", ".#.", ".#.", "###")), 0)
        self.assertEqual(ways([(0, 0), (7, 6)]), 0)

    def test_all_layings_found_one_by_one(self):
        for floor in list(floors_within(rectangle(5, 5, 3, 3))) + FEW:
            self.assertEqual(ways(floor), len(layings_one_by_one(floor)), floor)

    def test_each_floor_within_a_rectangle(self):
        for floor in floors_within(rectangle(2, 4, 3, 4)):
            self.assertEqual(ways(floor), len(layings_one_by_one(floor)), floor)

    def test_scattered_floors_with_few_layings(self):
        for floor, flags in scattered_layings(60, 31):
            if len(floor) <= 40:
                self.assertEqual(ways(floor), len(layings_one_by_one(floor)), floor)
            self.assertGreater(ways(floor), 0)

    def test_answer_is_a_whole_number(self):
        for floor in ([], [(0, 0)], BLOCK, BOARD):
            self.assertIs(type(ways(floor)), int)


class ToldTest(unittest.TestCase):
    def assert_kept(self, floor):
        """Each number below ways is told and numbered back, in the order of point 6."""
        layings = [told(floor, number) for number in range(ways(floor))]
        self.assertEqual(sorted(layings), sorted(layings_one_by_one(floor)))
        for number, flags in enumerate(layings):
            self.assertTrue(keeps_laying_words(floor, flags))
            self.assertEqual(number_of(floor, flags), number)
        for ones, others in zip(layings, layings[1:]):
            self.assertTrue(comes_first(ones, others), (floor, ones, others))

    def test_arguments(self):
        self.assertEqual(list(inspect.signature(told).parameters), ["floor", "number"])
        self.assertEqual(list(inspect.signature(number_of).parameters), ["floor", "flags"])

    def test_empty_floor(self):
        self.assertEqual(told([], 0), [])
        self.assertEqual(number_of([], []), 0)

    def test_block(self):
        self.assertEqual(told(BLOCK, 0), [(0, 0, 0), (1, 0, 0)])
        self.assertEqual(told(BLOCK, 1), [(0, 0, 1), (0, 1, 1)])
        self.assertEqual(number_of(BLOCK, [(0, 0, 0), (1, 0, 0)]), 0)
        self.assertEqual(number_of(BLOCK, [(0, 0, 1), (0, 1, 1)]), 1)

    def test_ring(self):
        self.assertEqual(told(RING, 0), RING_ROUND)
        self.assertEqual(number_of(RING, RING_ROUND), 0)

    def test_two_rows_of_three(self):
        floor = rectangle(6, 5, 2, 3)
        self.assertEqual([told(floor, number) for number in range(3)], [
            [(6, 5, 0), (6, 7, 1), (7, 5, 0)],
            [(6, 5, 1), (6, 6, 0), (7, 6, 0)],
            [(6, 5, 1), (6, 6, 1), (6, 7, 1)],
        ])

    def test_all_numbers_of_floors_with_few_layings(self):
        for floor in FEW + list(floors_within(rectangle(5, 5, 3, 3))):
            self.assert_kept(floor)

    def test_all_numbers_of_many_floors(self):
        for k, floor in enumerate(floors_within(rectangle(0, 0, 3, 4))):
            if k % 5 == 0:
                self.assert_kept(floor)

    def test_all_numbers_of_two_whole_rows(self):
        self.assert_kept(rectangle(0, 0, 2, 8))
        self.assert_kept(rectangle(6, 0, 2, 8))
        self.assert_kept(rectangle(0, 6, 8, 2))

    def test_all_numbers_of_scattered_floors(self):
        for floor, flags in scattered_layings(40, 37):
            if len(floor) <= 40:
                self.assert_kept(floor)

    def test_first_and_last_of_the_whole_board(self):
        self.assertEqual(told(BOARD, 0), BOARD_ACROSS)
        self.assertEqual(told(BOARD, BOARD_WAYS - 1), BOARD_DOWN)
        self.assertEqual(number_of(BOARD, BOARD_ACROSS), 0)
        self.assertEqual(number_of(BOARD, BOARD_DOWN), BOARD_WAYS - 1)

    def test_numbers_of_the_whole_board(self):
        numbers = sorted(great_numbers(40, BOARD_WAYS - 1, 41))
        numbers = sorted(set(numbers + [number + 1 for number in numbers]))
        layings = [told(BOARD, number) for number in numbers]
        for number, flags in zip(numbers, layings):
            self.assertTrue(keeps_laying_words(BOARD, flags))
            self.assertEqual(number_of(BOARD, flags), number)
        for ones, others in zip(layings, layings[1:]):
            self.assertTrue(comes_first(ones, others))

    def test_numbers_of_the_board_with_holes(self):
        for floor in HOLED_FLOORS:
            for number in great_numbers(10, ways(floor), 43):
                flags = told(floor, number)
                self.assertTrue(keeps_laying_words(floor, flags))
                self.assertEqual(number_of(floor, flags), number)

    def test_answers_are_lists_of_tuples_and_whole_numbers(self):
        flags = told(BOARD, 5)
        self.assertIs(type(flags), list)
        self.assertEqual({type(flag) for flag in flags}, {tuple})
        self.assertEqual({type(number) for flag in flags for number in flag}, {int})
        self.assertIs(type(number_of(BOARD, flags)), int)
        self.assertIs(type(number_of([], [])), int)


class RefusedTest(unittest.TestCase):
    def assert_no_number(self, floor, number):
        with self.assertRaises(NoNumber):
            told(floor, number)

    def test_numbers_below_0_and_beyond(self):
        for floor in [BOARD] + PLAIN_FLOORS + HOLED_FLOORS:
            first_beyond = ways(floor)
            for number in (-1, -2, -first_beyond, first_beyond, first_beyond + 1):
                if not 0 <= number < first_beyond:
                    self.assert_no_number(floor, number)

    def test_very_great_numbers_either_way(self):
        for floor in ([], BLOCK, RING, BOARD):
            for number in (VERY_GREAT, -VERY_GREAT, TOO_LONG_TO_SHOW, -TOO_LONG_TO_SHOW):
                self.assert_no_number(floor, number)

    def test_any_number_of_a_floor_without_a_laying(self):
        for floor in ([(0, 0)], [(0, 7), (1, 0)], without(BOARD, (0, 0), (7, 7)), rectangle(1, 1, 3, 3)):
            for number in (0, 1, -1, 2, VERY_GREAT, -VERY_GREAT, TOO_LONG_TO_SHOW, -TOO_LONG_TO_SHOW):
                self.assert_no_number(floor, number)

    def test_number_of_what_is_no_laying(self):
        for floor, flags in (
            (BLOCK, []),
            (BLOCK, [(1, 0, 0), (0, 0, 0)]),
            (BLOCK, [(0, 0, 0)]),
            (BLOCK, [(0, 0, 0), (0, 1, 1)]),
            (BLOCK, [(0, 0, 0), (1, 0, 2)]),
            ([], [(0, 0, 0)]),
            ([(0, 0)], []),
            (BOARD, BOARD_DOWN[1:]),
            (BOARD, BOARD_DOWN + [(VERY_GREAT, 0, 0)]),
            ([(0, 7), (1, 0)], [(0, 7, 0)]),
        ):
            with self.assertRaises(NoLaying):
                number_of(floor, flags)


if __name__ == "__main__":
    unittest.main()
