import functools
import inspect
import unittest

from flagfloor.counts import told, ways
from flagfloor.gaps import gaps, highest, lower, lowest, upper, way
from tests.helper import (
    BLOCK, BLOCK_ACROSS, BLOCK_DOWN, BOARD, BOARD_ACROSS, BOARD_DOWN, PLAIN_FLOORS, drawn, floors_within, gap_by_words,
    great_numbers, inner_by_words, keeps_laying_words, keeps_plain_words, layings_one_by_one, rectangle,
    scattered_layings, turn_by_words,
)

BIG_FLOORS = [
    BOARD,
    rectangle(1, 0, 6, 8),
    drawn("..####..", ".######.", "########", "########", "########", "########", ".######.", "..####.."),
    drawn("########", "########", "##....##", "##....##", "##..####", "##..####", "......##", "......##"),
    drawn("####....", "####....", "####....", "####....", "....####", "....####", "....####", "....####"),
    drawn(".#######", "#.######", "########", "########", "########", "########", "#.######", ".#######"),
]


def few_layings():
    """Triples (floor, ones, others): each pair of layings of floors with few of them."""
    floors = [floor for floor in PLAIN_FLOORS if len(floor) <= 14]
    floors += [floor for floor in floors_within(rectangle(2, 3, 3, 3)) if keeps_plain_words(floor)]
    for floor in floors:
        layings = layings_one_by_one(floor)
        for ones in layings:
            for others in layings:
                yield floor, ones, others


def great_layings():
    """Triples (floor, ones, others) on greater floors."""
    for floor in PLAIN_FLOORS + BIG_FLOORS:
        count = ways(floor)
        for one, other in zip(great_numbers(5, count, 59), great_numbers(5, count, 61)):
            yield floor, told(floor, one), told(floor, other)
        low, high = lowest(floor, told(floor, 0)), highest(floor, told(floor, 0))
        yield floor, low, high
        yield floor, high, low


def scattered_pairs():
    """Triples (floor, ones, others) on scattered floors that are plain."""
    for floor, flags in scattered_layings(80, 67):
        if keeps_plain_words(floor):
            yield floor, flags, told(floor, ways(floor) // 2)
            yield floor, told(floor, 0), told(floor, ways(floor) - 1)


@functools.cache
def many_pairs():
    return list(few_layings()) + list(great_layings()) + list(scattered_pairs())


def steps_apart(floor, ones):
    """How many turns each laying is away from the first one, by trying all of them."""
    steps = {tuple(ones): 0}
    waiting = [ones]
    for flags in waiting:
        for corner in inner_by_words(floor):
            turn = turn_by_words(flags, corner)
            if turn and tuple(turn[0]) not in steps:
                steps[tuple(turn[0])] = steps[tuple(flags)] + 1
                waiting.append(turn[0])
    return steps


def gap_dict(floor, ones, others):
    return {(row, column): gap for row, column, gap in gaps(floor, ones, others)}


class PairsTest(unittest.TestCase):
    def test_floors_to_try_are_plain_and_differ(self):
        for floor in PLAIN_FLOORS + BIG_FLOORS:
            self.assertTrue(keeps_plain_words(floor))
            self.assertTrue(ways(floor))
        self.assertGreater(len([ones for floor, ones, others in many_pairs() if ones != others]), 300)


class GapsTest(unittest.TestCase):
    def test_takes_floor_ones_and_others(self):
        for function in (gaps, way, upper, lower):
            self.assertEqual(list(inspect.signature(function).parameters), ["floor", "ones", "others"])

    def test_floors_without_an_inner_corner(self):
        self.assertEqual(gaps([], [], []), [])
        self.assertEqual(gaps([(0, 0), (0, 1)], [(0, 0, 0)], [(0, 0, 0)]), [])

    def test_block(self):
        self.assertEqual(gaps(BLOCK, BLOCK_DOWN, BLOCK_ACROSS), [(1, 1, 1)])
        self.assertEqual(gaps(BLOCK, BLOCK_ACROSS, BLOCK_DOWN), [(1, 1, -1)])
        self.assertEqual(gaps(BLOCK, BLOCK_DOWN, BLOCK_DOWN), [(1, 1, 0)])

    def test_block_at_an_odd_corner(self):
        floor = rectangle(0, 1, 2, 2)
        across, down = [(0, 1, 0), (1, 1, 0)], [(0, 1, 1), (0, 2, 1)]
        self.assertEqual(gaps(floor, across, down), [(1, 2, 1)])
        self.assertEqual(gaps(floor, down, across), [(1, 2, -1)])

    def test_words_of_the_document_on_many_pairs(self):
        values = []
        for floor, ones, others in many_pairs():
            expected = [corner + (gap_by_words(floor, ones, others, corner),) for corner in inner_by_words(floor)]
            self.assertEqual(gaps(floor, ones, others), expected)
            values.extend(gap for row, column, gap in expected)
        self.assertLess(min(values), -1)
        self.assertGreater(max(values), 1)

    def test_other_sign_the_other_way_round(self):
        for floor, ones, others in many_pairs():
            there = gaps(floor, ones, others)
            self.assertEqual(gaps(floor, others, ones), [(row, column, -gap) for row, column, gap in there])

    def test_nought_for_a_laying_and_itself_alone(self):
        for floor, ones, others in many_pairs():
            self.assertEqual(gaps(floor, ones, list(ones)), [corner + (0,) for corner in inner_by_words(floor)])
            self.assertEqual(any(gap for row, column, gap in gaps(floor, ones, others)), ones != others)

    def test_single_turn(self):
        for floor, ones, others in many_pairs():
            for corner in inner_by_words(floor):
                turn = turn_by_words(ones, corner)
                if turn:
                    expected = {other: 0 for other in inner_by_words(floor)}
                    expected[corner] = 1 if turn[1] else -1
                    self.assertEqual(gap_dict(floor, ones, turn[0]), expected)

    def test_gaps_add_up(self):
        for floor in BIG_FLOORS:
            one, two, three = [told(floor, number) for number in great_numbers(3, ways(floor), 71)]
            first, second, both = gap_dict(floor, one, two), gap_dict(floor, two, three), gap_dict(floor, one, three)
            self.assertEqual({corner: first[corner] + second[corner] for corner in both}, both)

    def test_answer_is_a_list_of_tuples_of_whole_numbers(self):
        answer = gaps(BOARD, BOARD_ACROSS, BOARD_DOWN)
        self.assertIs(type(answer), list)
        self.assertEqual({type(one) for one in answer}, {tuple})
        self.assertEqual({type(number) for one in answer for number in one}, {int})


class WayTest(unittest.TestCase):
    def assert_kept(self, floor, ones, others):
        """Point 10, word by word; the row of turns is given back."""
        row = way(floor, ones, others)
        self.assertIs(type(row), list)
        self.assertLessEqual({type(corner) for corner in row}, {tuple})
        flags = ones
        counted = {corner: 0 for corner in inner_by_words(floor)}
        for corner in row:
            turn = turn_by_words(flags, corner)
            self.assertIsNotNone(turn)
            gap = gap_by_words(floor, ones, others, corner)
            self.assertIs(turn[1], gap > 0)
            flags = turn[0]
            counted[corner] += 1 if turn[1] else -1
        self.assertEqual(flags, others)
        expected = {corner: gap_by_words(floor, ones, others, corner) for corner in counted}
        self.assertEqual(counted, expected)
        return row

    def test_block(self):
        self.assertEqual(way(BLOCK, BLOCK_ACROSS, BLOCK_DOWN), [(1, 1)])
        self.assertEqual(way(BLOCK, BLOCK_DOWN, BLOCK_ACROSS), [(1, 1)])

    def test_empty_from_a_laying_to_itself(self):
        self.assertEqual(way([], [], []), [])
        for floor, ones, others in many_pairs():
            self.assertEqual(way(floor, ones, list(ones)), [])
            self.assertEqual(way(floor, ones, ones), [])

    def test_words_of_the_document_on_many_pairs(self):
        for floor, ones, others in many_pairs():
            self.assert_kept(floor, ones, others)

    def test_no_row_of_turns_is_shorter(self):
        for floor in PLAIN_FLOORS:
            ones = told(floor, ways(floor) // 3)
            steps = steps_apart(floor, ones)
            self.assertEqual(len(steps), ways(floor))
            for others, count in steps.items():
                self.assertEqual(len(way(floor, ones, list(others))), count)

    def test_rising_and_falling_turns_in_one_row(self):
        floor = rectangle(0, 0, 2, 2) + rectangle(3, 0, 2, 2)
        ones = [(0, 0, 1), (0, 1, 1), (3, 0, 1), (3, 1, 1)]
        others = [(0, 0, 0), (1, 0, 0), (3, 0, 0), (4, 0, 0)]
        self.assertEqual(gaps(floor, ones, others), [(1, 1, 1), (4, 1, -1)])
        self.assertEqual(sorted(self.assert_kept(floor, ones, others)), [(1, 1), (4, 1)])

    def test_whole_board(self):
        self.assert_kept(BOARD, BOARD_ACROSS, BOARD_DOWN)
        self.assert_kept(BOARD, BOARD_DOWN, BOARD_ACROSS)

    def test_between_the_lowest_and_the_highest_laying_of_the_whole_board(self):
        low, high = lowest(BOARD, BOARD_ACROSS), highest(BOARD, BOARD_ACROSS)
        self.assertEqual(len(self.assert_kept(BOARD, low, high)), 84)
        self.assertEqual(len(self.assert_kept(BOARD, high, low)), 84)


class UpperAndLowerTest(unittest.TestCase):
    def test_block(self):
        for ones, others in ((BLOCK_ACROSS, BLOCK_DOWN), (BLOCK_DOWN, BLOCK_ACROSS)):
            self.assertEqual(upper(BLOCK, ones, others), BLOCK_ACROSS)
            self.assertEqual(lower(BLOCK, ones, others), BLOCK_DOWN)

    def test_empty_floor(self):
        self.assertEqual(upper([], [], []), [])
        self.assertEqual(lower([], [], []), [])

    def test_words_of_the_document_on_many_pairs(self):
        neither = 0
        for floor, ones, others in many_pairs():
            above, below = upper(floor, ones, others), lower(floor, ones, others)
            for flags in (above, below):
                self.assertIs(type(flags), list)
                self.assertTrue(keeps_laying_words(floor, flags))
            for corner in inner_by_words(floor):
                gap = gap_by_words(floor, ones, others, corner)
                self.assertEqual(gap_by_words(floor, ones, above, corner), gap if gap > 0 else 0)
                self.assertEqual(gap_by_words(floor, ones, below, corner), gap if gap < 0 else 0)
            neither += above not in (ones, others)
        self.assertGreater(neither, 20)

    def test_order_of_the_two_does_not_matter(self):
        for floor, ones, others in many_pairs():
            self.assertEqual(upper(floor, ones, others), upper(floor, others, ones))
            self.assertEqual(lower(floor, ones, others), lower(floor, others, ones))

    def test_of_one_laying_twice(self):
        for floor, ones, others in many_pairs():
            for function in (upper, lower):
                self.assertEqual(function(floor, ones, ones), ones)
                self.assertEqual(function(floor, ones, list(ones)), ones)

    def test_with_the_highest_and_the_lowest(self):
        for floor in PLAIN_FLOORS + BIG_FLOORS:
            flags = told(floor, ways(floor) // 2)
            high, low = highest(floor, flags), lowest(floor, flags)
            self.assertEqual(upper(floor, flags, high), high)
            self.assertEqual(lower(floor, flags, high), flags)
            self.assertEqual(upper(floor, flags, low), flags)
            self.assertEqual(lower(floor, flags, low), low)


class HighestAndLowestTest(unittest.TestCase):
    def directions(self, floor, flags):
        turns = [turn_by_words(flags, corner) for corner in inner_by_words(floor)]
        return {turn[1] for turn in turns if turn}

    def test_takes_floor_and_flags(self):
        for function in (highest, lowest):
            self.assertEqual(list(inspect.signature(function).parameters), ["floor", "flags"])

    def test_block(self):
        for flags in (BLOCK_ACROSS, BLOCK_DOWN):
            self.assertEqual(highest(BLOCK, flags), BLOCK_ACROSS)
            self.assertEqual(lowest(BLOCK, flags), BLOCK_DOWN)

    def test_floors_with_one_laying(self):
        for floor, flags in (([], []), ([(7, 6), (7, 7)], [(7, 6, 0)]), (rectangle(0, 7, 2, 1), [(0, 7, 1)])):
            self.assertEqual(highest(floor, flags), flags)
            self.assertEqual(lowest(floor, flags), flags)

    def test_words_of_the_document_on_many_layings(self):
        for floor, ones, others in many_pairs():
            high, low = highest(floor, ones), lowest(floor, ones)
            for flags in (high, low):
                self.assertIs(type(flags), list)
                self.assertTrue(keeps_laying_words(floor, flags))
            self.assertNotIn(True, self.directions(floor, high))
            self.assertNotIn(False, self.directions(floor, low))
            self.assertEqual(highest(floor, others), high)
            self.assertEqual(lowest(floor, others), low)

    def test_just_one_of_each_among_all_layings(self):
        for floor in PLAIN_FLOORS:
            layings = layings_one_by_one(floor)
            highs = [flags for flags in layings if True not in self.directions(floor, flags)]
            lows = [flags for flags in layings if False not in self.directions(floor, flags)]
            for flags in layings:
                self.assertEqual([highest(floor, flags)], highs)
                self.assertEqual([lowest(floor, flags)], lows)

    def test_all_others_lie_between(self):
        for floor, ones, others in great_layings():
            high, low = highest(floor, ones), lowest(floor, ones)
            for row, column, gap in gaps(floor, others, high) + gaps(floor, low, others):
                self.assertGreaterEqual(gap, 0)

    def test_of_the_highest_and_of_the_lowest(self):
        for floor in PLAIN_FLOORS + BIG_FLOORS:
            high, low = highest(floor, told(floor, 0)), lowest(floor, told(floor, 0))
            self.assertEqual((highest(floor, high), lowest(floor, high)), (high, low))
            self.assertEqual((highest(floor, low), lowest(floor, low)), (high, low))


if __name__ == "__main__":
    unittest.main()
