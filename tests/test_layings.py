import inspect
import itertools
import unittest

from flagfloor.errors import NoFloor
from flagfloor.floors import is_plain
from flagfloor.layings import is_laying, lay
from tests.helper import (
    BLOCK, BOARD, BOARD_ACROSS, BOARD_DOWN, NO_FLOORS, RING, RING_ROUND, TOO_LONG_TO_SHOW, VERY_GREAT, drawn,
    floors_within, keeps_laying_words, keeps_wall_words, rectangle, scattered_floors, scattered_layings, without,
)


class IsLayingTest(unittest.TestCase):
    def assert_laying(self, floor, flags):
        self.assertIs(is_laying(floor, flags), True)

    def assert_no_laying(self, floor, flags):
        self.assertIs(is_laying(floor, flags), False)

    def test_takes_floor_and_flags(self):
        self.assertEqual(list(inspect.signature(is_laying).parameters), ["floor", "flags"])

    def test_empty_laying(self):
        self.assert_laying([], [])
        self.assert_no_laying([(3, 3)], [])
        self.assert_no_laying(BOARD, [])
        self.assert_no_laying([], [(0, 0, 0)])
        self.assert_no_laying([], [(0, 0, 1)])

    def test_one_flag(self):
        self.assert_laying([(2, 3), (2, 4)], [(2, 3, 0)])
        self.assert_laying([(2, 3), (3, 3)], [(2, 3, 1)])
        self.assert_no_laying([(2, 3), (2, 4)], [(2, 3, 1)])
        self.assert_no_laying([(2, 3), (3, 3)], [(2, 3, 0)])
        self.assert_no_laying([(2, 3), (2, 4)], [(2, 4, 0)])
        self.assert_no_laying([(2, 3), (3, 3)], [(3, 3, 1)])
        self.assert_no_laying([(2, 3), (3, 4)], [(2, 3, 0)])
        self.assert_no_laying([(2, 3)], [(2, 3, 0)])

    def test_whole_board(self):
        self.assert_laying(BOARD, BOARD_ACROSS)
        self.assert_laying(BOARD, BOARD_DOWN)
        self.assert_laying(BOARD, BOARD_ACROSS[:16] + BOARD_DOWN[16:])
        self.assert_no_laying(BOARD, BOARD_ACROSS[:12] + BOARD_DOWN[16:])
        self.assert_no_laying(BOARD, BOARD_ACROSS + BOARD_DOWN)

    def test_flag_left_out(self):
        for k in range(len(BOARD_DOWN)):
            self.assert_no_laying(BOARD, BOARD_DOWN[:k] + BOARD_DOWN[k + 1:])

    def test_flag_told_twice(self):
        for k in range(len(BOARD_DOWN)):
            self.assert_no_laying(BOARD, BOARD_DOWN[:k + 1] + BOARD_DOWN[k:])
        self.assert_no_laying(BLOCK, [(0, 0, 0), (0, 0, 0)])

    def test_two_flags_out_of_order(self):
        for k in range(len(BOARD_DOWN) - 1):
            flags = list(BOARD_DOWN)
            flags[k], flags[k + 1] = flags[k + 1], flags[k]
            self.assert_no_laying(BOARD, flags)
        self.assert_no_laying(BLOCK, [(1, 0, 0), (0, 0, 0)])
        self.assert_no_laying(BLOCK, [(0, 1, 1), (0, 0, 1)])
        self.assert_no_laying(RING, [(2, 3, 0), (3, 3, 1), (2, 5, 1), (4, 4, 0)])

    def test_order_is_not_that_of_columns_or_of_ways(self):
        floor = [(0, 0), (0, 1), (0, 2), (1, 2), (2, 0), (2, 1)]
        self.assert_laying(floor, [(0, 0, 0), (0, 2, 1), (2, 0, 0)])
        self.assert_no_laying(floor, [(0, 0, 0), (2, 0, 0), (0, 2, 1)])

    def test_way_that_is_neither_0_nor_1(self):
        for way in (-1, 2, 3, VERY_GREAT, -VERY_GREAT, TOO_LONG_TO_SHOW):
            self.assert_no_laying([(2, 3), (2, 4)], [(2, 3, way)])
            self.assert_no_laying([(2, 3), (3, 3)], [(2, 3, way)])
            self.assert_no_laying([(2, 3)], [(2, 3, way)])
            self.assert_no_laying(BLOCK, [(0, 0, way), (1, 0, way)])
            self.assert_no_laying(BLOCK, [(0, 0, way), (0, 1, way)])
            self.assert_no_laying(BLOCK, [(0, 0, 0), (0, 1, way), (1, 0, 0)])
            self.assert_no_laying([], [(0, 0, way)])

    def test_flag_beyond_the_floor(self):
        self.assert_no_laying(BLOCK, [(0, 0, 0), (1, 0, 0), (4, 4, 0)])
        self.assert_no_laying(BLOCK, [(0, 0, 0), (1, 0, 0), (2, 0, 0)])
        self.assert_no_laying(BLOCK, [(0, 0, 1), (0, 1, 1), (0, 2, 1)])
        self.assert_no_laying(BLOCK[:3], [(0, 0, 0), (1, 0, 0)])
        self.assert_no_laying([(2, 3), (2, 4), (2, 5)], [(2, 3, 0), (2, 5, 0)])

    def test_flag_half_beyond_the_board(self):
        self.assert_no_laying([(0, 7)], [(0, 7, 0)])
        self.assert_no_laying([(7, 0)], [(7, 0, 1)])
        self.assert_no_laying([(0, 0)], [(0, -1, 0)])
        self.assert_no_laying([(0, 0)], [(-1, 0, 1)])

    def test_flag_does_not_go_round_the_edge_of_the_board(self):
        self.assert_no_laying([(0, 7), (1, 0)], [(0, 7, 0)])
        self.assert_no_laying([(0, 0), (0, 7)], [(0, 7, 0)])
        self.assert_no_laying([(0, 0), (0, 7)], [(0, -1, 0)])
        self.assert_no_laying([(0, 0), (7, 0)], [(7, 0, 1)])
        self.assert_no_laying([(0, 0), (7, 0)], [(-1, 0, 1)])

    def test_flag_wholly_beyond_the_board(self):
        for number in (-2, -1, 8, 9, 64, VERY_GREAT, -VERY_GREAT, TOO_LONG_TO_SHOW, -TOO_LONG_TO_SHOW):
            for way in (0, 1):
                for beyond in ((number, 0, way), (0, number, way), (number, number, way)):
                    self.assert_no_laying([], [beyond])
                    self.assert_no_laying(BLOCK, sorted([(0, 0, 0), (1, 0, 0), beyond]))
                    self.assert_no_laying(BOARD, sorted(BOARD_ACROSS + [beyond]))
                    self.assert_no_laying(BOARD, sorted(BOARD_ACROSS[1:] + [beyond]))

    def test_square_covered_twice(self):
        self.assert_no_laying(BLOCK, [(0, 0, 0), (0, 0, 1), (1, 0, 0)])
        self.assert_no_laying(BLOCK, [(0, 0, 0), (0, 0, 1)])
        self.assert_no_laying(BLOCK, [(0, 0, 0), (0, 1, 1), (1, 0, 0)])
        self.assert_no_laying([(0, 0), (0, 1), (0, 2)], [(0, 0, 0), (0, 1, 0)])
        self.assert_no_laying([(0, 0), (1, 0), (2, 0)], [(0, 0, 1), (1, 0, 1)])

    def test_each_short_list_of_flags_on_a_block(self):
        flags = list(itertools.product(range(-1, 3), range(-1, 3), range(-1, 3)))
        layings = []
        for length in range(3):
            for some in itertools.product(flags, repeat=length):
                if is_laying(BLOCK, list(some)):
                    layings.append(list(some))
        self.assertEqual(layings, [[(0, 0, 0), (1, 0, 0)], [(0, 0, 1), (0, 1, 1)]])

    def test_floor_that_is_not_plain_is_not_refused(self):
        self.assertIs(is_plain(RING), False)
        self.assert_laying(RING, RING_ROUND)
        self.assert_no_laying(RING, RING_ROUND[1:])

    def test_many_layings_and_what_is_nearly_one(self):
        for floor, flags in scattered_layings(60, 11):
            self.assertTrue(keeps_laying_words(floor, flags))
            self.assert_laying(floor, flags)
            for k, (row, column, way) in enumerate(flags):
                other_way = flags[:k] + [(row, column, 1 - way)] + flags[k + 1:]
                self.assert_no_laying(floor, other_way)
                self.assert_no_laying(floor, flags[:k] + flags[k + 1:])
                self.assert_no_laying(without(floor, (row, column)), flags)


class LayTest(unittest.TestCase):
    def assert_kept(self, floor):
        """The answer keeps to the words of the document; its first word is given back."""
        answer = lay(floor)
        self.assertIs(type(answer), tuple)
        word, told = answer
        self.assertIn(word, ("laid", "wall"))
        self.assertIs(type(told), list)
        self.assertLessEqual({type(one) for one in told}, {tuple})
        self.assertLessEqual({type(number) for one in told for number in one}, {int})
        keeps = keeps_laying_words if word == "laid" else keeps_wall_words
        self.assertTrue(keeps(floor, told), (floor, answer))
        self.assertIs(is_laying(floor, told) if word == "laid" else True, True)
        return word

    def test_takes_floor(self):
        self.assertEqual(list(inspect.signature(lay).parameters), ["floor"])

    def test_empty_floor(self):
        self.assertEqual(lay([]), ("laid", []))

    def test_one_square_anywhere(self):
        for square in BOARD:
            self.assertEqual(lay([square]), ("wall", [square]))

    def test_two_squares(self):
        self.assertEqual(lay([(2, 3), (2, 4)]), ("laid", [(2, 3, 0)]))
        self.assertEqual(lay([(2, 3), (3, 3)]), ("laid", [(2, 3, 1)]))
        self.assertEqual(self.assert_kept([(2, 3), (3, 4)]), "wall")
        self.assertEqual(self.assert_kept([(0, 7), (1, 0)]), "wall")
        self.assertEqual(self.assert_kept([(0, 0), (0, 7)]), "wall")
        self.assertEqual(self.assert_kept([(0, 0), (7, 0)]), "wall")

    def test_whole_board_and_other_rectangles(self):
        self.assertEqual(self.assert_kept(BOARD), "laid")
        for rows in range(1, 9):
            for columns in range(1, 9):
                floor = rectangle(8 - rows, 8 - columns, rows, columns)
                self.assertEqual(self.assert_kept(floor), "wall" if rows * columns % 2 else "laid")

    def test_board_with_two_squares_left_out(self):
        for one in ((0, 0), (0, 7), (3, 4)):
            for other in BOARD:
                alike = (sum(one) + sum(other)) % 2 == 0
                self.assertEqual(self.assert_kept(without(BOARD, one, other)), "wall" if alike else "laid")

    def test_more_odd_squares_than_even_ones(self):
        self.assertEqual(self.assert_kept([(0, 1), (0, 2), (0, 3)]), "wall")
        self.assertEqual(self.assert_kept(without(BOARD, (0, 0), (7, 7))), "wall")

    def test_more_even_squares_than_odd_ones(self):
        self.assertEqual(self.assert_kept([(0, 0), (0, 1), (0, 2)]), "wall")
        self.assertEqual(self.assert_kept(without(BOARD, (0, 7), (7, 0))), "wall")

    def test_wall_with_as_many_even_squares_as_odd_ones(self):
        floors = [
            [(0, 0), (7, 6)],
            drawn("###.", ".#..", "....", "....", ".###", "..#."),
            drawn("###", ".#.", ".#.", ".#.", ".#.", "###"),
            without(BOARD, (0, 1), (1, 0), (7, 7), (0, 2)),
            without(BOARD, (0, 2), (1, 1), (2, 0), (0, 5), (1, 6), (2, 7)),
            sorted(rectangle(0, 0, 3, 3) + rectangle(0, 5, 3, 3) + rectangle(5, 0, 3, 3) + rectangle(5, 5, 3, 3)),
        ]
        for floor in floors:
            self.assertEqual(sum((-1) ** (row + column) for row, column in floor), 0)
            self.assertEqual(self.assert_kept(floor), "wall")

    def test_flags_that_must_make_room_for_one_another(self):
        self.assertEqual(lay(rectangle(3, 1, 1, 6)), ("laid", [(3, 1, 0), (3, 3, 0), (3, 5, 0)]))
        self.assertEqual(lay(rectangle(0, 7, 8, 1)), ("laid", [(row, 7, 1) for row in (0, 2, 4, 6)]))
        winding = drawn(
            "########",
            ".......#",
            "########",
            "#.......",
            "########",
            ".......#",
            "########",
        )
        self.assertEqual(self.assert_kept(winding), "wall")
        self.assertEqual(self.assert_kept(winding[1:]), "laid")
        self.assertEqual(self.assert_kept(without(winding, (6, 0))), "laid")

    def test_floor_that_is_not_plain_is_not_refused(self):
        self.assertEqual(self.assert_kept(RING), "laid")
        self.assertEqual(self.assert_kept(sorted(RING + [(7, 7)])), "wall")
        self.assertEqual(self.assert_kept(without(BOARD, (3, 3), (5, 4))), "laid")
        self.assertEqual(self.assert_kept(without(BOARD, (3, 3), (4, 4))), "wall")

    def test_each_floor_within_a_rectangle(self):
        words = [self.assert_kept(floor) for floor in floors_within(rectangle(5, 4, 3, 4))]
        self.assertEqual(len(words), 4096)
        self.assertGreater(words.count("laid"), 100)

    def test_scattered_floors(self):
        for floor in scattered_floors(320, 17):
            self.assert_kept(floor)

    def test_floors_made_of_flags_are_laid(self):
        for floor, flags in scattered_layings(200, 23):
            self.assertEqual(self.assert_kept(floor), "laid")

    def test_floors_made_of_flags_with_two_squares_left_out(self):
        words = []
        for floor, flags in scattered_layings(60, 29):
            even = [square for square in floor if sum(square) % 2 == 0]
            odd = [square for square in floor if sum(square) % 2 == 1]
            words.append(self.assert_kept(without(floor, even[0], odd[-1])))
        self.assertIn("wall", words)


class HandedInTest(unittest.TestCase):
    def test_no_floor_is_refused(self):
        for words, squares in NO_FLOORS.items():
            with self.subTest(squares=words):
                with self.assertRaises(NoFloor):
                    lay(squares)
                with self.assertRaises(NoFloor):
                    is_laying(squares, [])

    def test_no_floor_is_refused_ahead_of_all_else(self):
        for words, squares in NO_FLOORS.items():
            for flags in ([(0, 0, 2)], [(9, 9, 9)], [(1, 0, 0), (0, 0, 0)], [(0, 7, 0)], [(-1, 0, 1)]):
                with self.subTest(squares=words, flags=flags):
                    with self.assertRaises(NoFloor):
                        is_laying(squares, flags)

    def test_list_that_the_flags_would_cover_is_refused_all_the_same(self):
        for squares, flags in (
            ([(0, 7), (0, 8)], [(0, 7, 0)]),
            ([(7, 0), (8, 0)], [(7, 0, 1)]),
            ([(-1, 0), (0, 0)], [(-1, 0, 1)]),
            ([(0, -1), (0, 0)], [(0, -1, 0)]),
            ([(0, 1), (0, 0)], [(0, 0, 0)]),
        ):
            with self.subTest(squares=squares):
                with self.assertRaises(NoFloor):
                    is_laying(squares, flags)

    def test_what_is_handed_in_stays_as_it_was(self):
        for floor, flags in (
            ([], []),
            (list(RING), list(RING_ROUND)),
            (list(BOARD), list(BOARD_DOWN)),
            (list(BLOCK), [(1, 0, 0), (0, 0, 0)]),
            ([(3, 3)], [(3, 3, 7), (3, 3, 7)]),
            ([(1, 0), (0, 0)], [(0, 0, 1)]),
        ):
            floor_before, flags_before = list(floor), list(flags)
            for ask in (lambda: is_laying(floor, flags), lambda: lay(floor)):
                try:
                    ask()
                except NoFloor:
                    pass
                self.assertEqual(floor, floor_before)
                self.assertEqual(flags, flags_before)

    def test_what_was_told_may_be_changed(self):
        for floor in ([], [(3, 3)], list(RING), list(BOARD), [(0, 0), (0, 2)]):
            before = list(floor)
            word, told = lay(floor)
            self.assertIsNot(told, floor)
            kept = list(told)
            self.assertEqual(lay(floor), (word, kept))
            self.assertIsNot(lay(floor)[1], told)
            told.append("changed")
            told.reverse()
            self.assertEqual(lay(floor), (word, kept))
            self.assertEqual(floor, before)

    def test_what_was_handed_in_may_be_changed_later(self):
        floor = [(3, 3)]
        answer = lay(floor)
        floor.append((3, 4))
        self.assertEqual(answer, ("wall", [(3, 3)]))
        self.assertEqual(lay(floor), ("laid", [(3, 3, 0)]))
        flags = [(3, 3, 0)]
        self.assertIs(is_laying(floor, flags), True)
        flags.append((5, 5, 0))
        self.assertIs(is_laying(floor, flags), False)
        floor.extend([(5, 5), (5, 6)])
        self.assertIs(is_laying(floor, flags), True)


if __name__ == "__main__":
    unittest.main()
