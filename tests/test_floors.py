import inspect
import unittest

from flagfloor.errors import NoFloor
from flagfloor.floors import inner, is_plain
from tests.helper import (
    BOARD, NO_FLOORS, RING, drawn, floors_within, inner_by_words, keeps_plain_words, rectangle, scattered_floors,
    without,
)

DIAMOND = [(3, 4), (4, 3), (4, 5), (5, 4)]
BORDER = without(BOARD, *rectangle(1, 1, 6, 6))


class IsPlainTest(unittest.TestCase):
    def assert_plain(self, floor):
        self.assertIs(is_plain(floor), True)

    def assert_not_plain(self, floor):
        self.assertIs(is_plain(floor), False)

    def test_takes_floor(self):
        self.assertEqual(list(inspect.signature(is_plain).parameters), ["floor"])

    def test_empty_floor(self):
        self.assert_plain([])

    def test_one_square_anywhere(self):
        for square in BOARD:
            with self.subTest(square=square):
                self.assert_plain([square])

    def test_whole_board(self):
        self.assert_plain(BOARD)

    def test_ring_with_a_hole_anywhere(self):
        for top in range(6):
            for left in range(6):
                with self.subTest(top=top, left=left):
                    self.assert_not_plain(without(rectangle(top, left, 3, 3), (top + 1, left + 1)))

    def test_board_with_one_square_left_out(self):
        for row, column in BOARD:
            at_the_edge = row in (0, 7) or column in (0, 7)
            with self.subTest(left_out=(row, column)):
                self.assertIs(is_plain(without(BOARD, (row, column))), at_the_edge)

    def test_hole_that_touches_the_outside_only_over_a_corner(self):
        self.assert_plain(DIAMOND)
        for gap in ((2, 3), (2, 5), (4, 3), (4, 5)):
            with self.subTest(gap=gap):
                self.assert_plain(without(RING, gap))

    def test_hole_that_touches_the_outside_over_a_side(self):
        for gap in ((2, 4), (3, 3), (3, 5), (4, 4)):
            with self.subTest(gap=gap):
                self.assert_plain(without(RING, gap))

    def test_hole_at_the_edge_of_the_board_touches_the_rim(self):
        self.assert_plain(without(BOARD, (1, 1), (0, 0)))
        self.assert_plain(without(BOARD, (6, 6), (7, 7)))
        self.assert_plain(without(BOARD, (1, 6), (0, 7)))
        self.assert_not_plain(without(BOARD, (1, 1), (2, 2), (3, 3)))

    def test_squares_at_the_edges_of_the_board(self):
        self.assert_not_plain(BORDER)
        self.assert_plain(without(BORDER, (7, 7)))
        self.assert_plain(without(BORDER, (0, 3)))
        for edge in (rectangle(0, 0, 1, 8), rectangle(7, 0, 1, 8), rectangle(0, 0, 8, 1), rectangle(0, 7, 8, 1)):
            self.assert_plain(edge)

    def test_several_pieces(self):
        self.assert_plain([(0, 0), (0, 7), (3, 3), (3, 4), (7, 0), (7, 7)])
        self.assert_not_plain([(0, 0)] + RING + [(7, 7)])
        self.assert_not_plain(sorted(BORDER + [(3, 3), (3, 4)]))

    def test_a_second_hole_is_seen_too(self):
        self.assert_not_plain(without(BOARD, (0, 0), (1, 1), (6, 6)))
        self.assert_not_plain(without(BOARD, (1, 1), (6, 6), (7, 7)))

    def test_long_winding_way_out(self):
        self.assert_plain(drawn(
            "########",
            "#.......",
            "#.######",
            "#.#....#",
            "#.#.##.#",
            "#.####.#",
            "#......#",
            "########",
        ))

    def test_long_winding_hole(self):
        self.assert_not_plain(drawn(
            "########",
            "#......#",
            "#.######",
            "#.#....#",
            "#.#.##.#",
            "#.####.#",
            "#......#",
            "########",
        ))

    def test_words_of_the_document_on_many_floors(self):
        answers = []
        for floor in list(floors_within(rectangle(5, 4, 3, 3))) + scattered_floors(200, 3):
            answers.append(is_plain(floor))
            self.assertIs(answers[-1], keeps_plain_words(floor), floor)
        self.assertGreater(answers.count(True), 50)
        self.assertGreater(answers.count(False), 50)


class InnerTest(unittest.TestCase):
    def test_takes_floor(self):
        self.assertEqual(list(inspect.signature(inner).parameters), ["floor"])

    def test_one_corner_where_four_squares_meet(self):
        self.assertEqual(inner([(0, 0), (0, 1), (1, 0), (1, 1)]), [(1, 1)])
        self.assertEqual(inner([(6, 6), (6, 7), (7, 6), (7, 7)]), [(7, 7)])
        self.assertEqual(inner([(2, 5), (2, 6), (3, 5), (3, 6)]), [(3, 6)])

    def test_none_where_four_squares_do_not_meet(self):
        block = rectangle(4, 2, 2, 2)
        for square in block:
            with self.subTest(left_out=square):
                self.assertEqual(inner(without(block, square)), [])
        for floor in ([], [(4, 4)], RING, DIAMOND, BORDER, rectangle(0, 0, 1, 8), rectangle(0, 7, 8, 1)):
            with self.subTest(floor=floor):
                self.assertEqual(inner(floor), [])

    def test_no_corner_over_the_edge_of_the_board(self):
        self.assertEqual(inner(sorted(rectangle(2, 0, 2, 1) + rectangle(1, 7, 2, 1))), [])
        self.assertEqual(inner(sorted(rectangle(0, 3, 1, 2) + rectangle(7, 3, 1, 2))), [])

    def test_in_order_of_rows_then_columns(self):
        self.assertEqual(inner(rectangle(1, 2, 3, 4)), [(2, 3), (2, 4), (2, 5), (3, 3), (3, 4), (3, 5)])
        two_pieces = sorted(rectangle(0, 5, 2, 3) + rectangle(0, 0, 3, 2))
        self.assertEqual(inner(two_pieces), [(1, 1), (1, 6), (1, 7), (2, 1)])

    def test_whole_board(self):
        self.assertEqual(inner(BOARD), [(row, column) for row in range(1, 8) for column in range(1, 8)])

    def test_floor_that_is_not_plain_is_not_refused(self):
        wide_ring = without(rectangle(0, 0, 4, 3), (1, 1))
        self.assertIs(is_plain(wide_ring), False)
        self.assertEqual(inner(wide_ring), [(3, 1), (3, 2)])

    def test_words_of_the_document_on_many_floors(self):
        for floor in scattered_floors(160, 5):
            self.assertEqual(inner(floor), inner_by_words(floor))

    def test_answer_is_a_list_of_tuples(self):
        answer = inner(BOARD)
        self.assertIs(type(answer), list)
        self.assertEqual({type(corner) for corner in answer}, {tuple})


class HandedInTest(unittest.TestCase):
    def test_no_floor_is_refused(self):
        for function in (is_plain, inner):
            for words, squares in NO_FLOORS.items():
                with self.subTest(function=function.__name__, squares=words):
                    with self.assertRaises(NoFloor):
                        function(squares)

    def test_what_is_handed_in_stays_as_it_was(self):
        for function in (is_plain, inner):
            for floor in ([], list(RING), list(BOARD)):
                before = list(floor)
                function(floor)
                self.assertEqual(floor, before)

    def test_refused_list_stays_as_it_was(self):
        for function in (is_plain, inner):
            for squares in NO_FLOORS.values():
                handed = list(squares)
                with self.assertRaises(NoFloor):
                    function(handed)
                self.assertEqual(handed, squares)

    def test_what_was_told_may_be_changed(self):
        for floor in ([], list(BOARD)):
            answer = inner(floor)
            self.assertIsNot(answer, floor)
            again = inner(floor)
            self.assertIsNot(again, answer)
            answer.append("changed")
            answer.reverse()
            self.assertEqual(inner(floor), again)
            self.assertNotIn("changed", floor)

    def test_what_was_handed_in_may_be_changed_later(self):
        floor = rectangle(0, 0, 2, 2)
        answer = inner(floor)
        floor.clear()
        self.assertEqual(answer, [(1, 1)])
        self.assertEqual(inner(floor), [])
        floor.extend(RING)
        self.assertIs(is_plain(floor), False)
        floor.remove((2, 3))
        self.assertIs(is_plain(floor), True)


if __name__ == "__main__":
    unittest.main()
