import inspect
import itertools
import unittest

from flagfloor.errors import NoNote
from flagfloor.notes import read, shown
from tests.helper import (
    BOARD, BOARD_ACROSS, BOARD_DOWN, RING, RING_ROUND, floors_within, layings_one_by_one, many_layings, note_by_words,
    rectangle, scattered_layings,
)

EMPTY_NOTE = "\n".join(["........"] * 8)
ACROSS_NOTE = "\n".join(["<><><><>"] * 8)
DOWN_NOTE = "\n".join(["^^^^^^^^", "vvvvvvvv"] * 4)
RING_NOTE = "........\n........\n...<>^..\n...^.v..\n...v<>..\n........\n........\n........"
OTHER_SIGNS = list("V,:# -_0xAn\\()[]{}oO|*'\"`~\t\r\0\x0b\x0c") + [
    "\x1c", "\x85", "\xb7", "\u2028", "\u2029", "\u2024", "\uff0e", "\uff1c", "\uff1e", "\u2228", "\u02c4", "\u0475",
    "\ud800", "\U0001f600",
]


class ShownTest(unittest.TestCase):
    def test_arguments(self):
        self.assertEqual(list(inspect.signature(shown).parameters), ["floor", "flags"])
        self.assertEqual(list(inspect.signature(read).parameters), ["text"])

    def test_empty_floor(self):
        self.assertEqual(shown([], []), EMPTY_NOTE)
        self.assertEqual(read(EMPTY_NOTE), ([], []))

    def test_whole_board(self):
        self.assertEqual(shown(BOARD, BOARD_ACROSS), ACROSS_NOTE)
        self.assertEqual(shown(BOARD, BOARD_DOWN), DOWN_NOTE)
        self.assertEqual(read(ACROSS_NOTE), (BOARD, BOARD_ACROSS))
        self.assertEqual(read(DOWN_NOTE), (BOARD, BOARD_DOWN))

    def test_floor_that_is_not_plain(self):
        self.assertEqual(shown(RING, RING_ROUND), RING_NOTE)
        self.assertEqual(read(RING_NOTE), (RING, RING_ROUND))

    def test_both_ways_on_many_layings(self):
        for floor, flags in many_layings(73):
            text = shown(floor, flags)
            self.assertIs(type(text), str)
            self.assertEqual(text, note_by_words(floor, flags))
            self.assertEqual(read(text), (floor, flags))

    def test_one_flag_anywhere(self):
        for row, column in BOARD:
            for floor, flag in (
                ([(row, column), (row, column + 1)], (row, column, 0)),
                ([(row, column), (row + 1, column)], (row, column, 1)),
            ):
                if max(floor[1]) < 8:
                    text = shown(floor, [flag])
                    self.assertEqual(text, note_by_words(floor, [flag]))
                    self.assertEqual(read(text), (floor, [flag]))

    def test_what_is_read_is_a_tuple_of_two_lists_of_tuples(self):
        for text in (EMPTY_NOTE, RING_NOTE, DOWN_NOTE):
            answer = read(text)
            self.assertIs(type(answer), tuple)
            self.assertEqual([type(part) for part in answer], [list, list])
            self.assertLessEqual({type(one) for part in answer for one in part}, {tuple})
            self.assertLessEqual({type(number) for part in answer for one in part for number in one}, {int})
            self.assertIsNot(answer[0], answer[1])


class SpoiltTest(unittest.TestCase):
    def assert_no_note(self, text):
        with self.assertRaises(NoNote):
            read(text)

    def test_empty_text_and_line_feeds_alone(self):
        for text in ("", " ", ".", "\n", "\n" * 7, "\n" * 8, "." * 64, "." * 71):
            self.assert_no_note(text)

    def test_one_sign_spoilt(self):
        for text in (EMPTY_NOTE, ACROSS_NOTE, DOWN_NOTE, RING_NOTE):
            for k, old in enumerate(text):
                for sign in ".<>^v\n#":
                    if sign != old:
                        self.assert_no_note(text[:k] + sign + text[k + 1:])

    def test_one_sign_spoilt_in_many_notes(self):
        for floor, flags in scattered_layings(12, 83):
            text = note_by_words(floor, flags)
            for k, old in enumerate(text):
                for sign in ".<>^v":
                    if sign != old:
                        self.assert_no_note(text[:k] + sign + text[k + 1:])

    def test_sign_that_is_not_one_of_the_five(self):
        for text in (EMPTY_NOTE, ACROSS_NOTE, DOWN_NOTE, RING_NOTE):
            for sign in OTHER_SIGNS:
                for k in (0, 1, 7, 8, 9, 20, 39, 62, 70):
                    self.assert_no_note(text[:k] + sign + text[k + 1:])
                for old in ".<>^v\n":
                    if old in text:
                        self.assert_no_note(text.replace(old, sign))

    def test_sign_too_few_or_too_many(self):
        for text in (EMPTY_NOTE, ACROSS_NOTE, DOWN_NOTE, RING_NOTE):
            for k in range(len(text)):
                self.assert_no_note(text[:k] + text[k + 1:])
            for k in range(len(text) + 1):
                for sign in ".<v \n":
                    self.assert_no_note(text[:k] + sign + text[k:])

    def test_sign_moved_from_one_line_to_another(self):
        lines = EMPTY_NOTE.split("\n")
        self.assert_no_note("\n".join([lines[0][1:], lines[1] + "."] + lines[2:]))
        self.assert_no_note("\n".join(lines[:6] + [lines[6] + ".", lines[7][1:]]))

    def test_two_signs_too_many_in_each_line(self):
        self.assert_no_note("\n".join([".........."] * 8))
        self.assert_no_note("\n".join(["<><><><><>"] * 8))
        self.assert_no_note("\n".join(["<><><>"] * 8))

    def test_line_too_few_or_too_many(self):
        for text in (EMPTY_NOTE, ACROSS_NOTE, DOWN_NOTE, RING_NOTE):
            lines = text.split("\n")
            for k in range(8):
                self.assert_no_note("\n".join(lines[:k] + lines[k + 1:]))
                self.assert_no_note("\n".join(lines[:k] + ["........"] + lines[k:]))
                self.assert_no_note("\n".join(lines[:k] + [""] + lines[k:]))
            self.assert_no_note("\n".join(lines + lines[:2]))
            self.assert_no_note("\n".join(lines[:6]))
            self.assert_no_note("\n".join(lines + lines))

    def test_line_feed_or_blank_at_an_end(self):
        for text in (EMPTY_NOTE, ACROSS_NOTE, DOWN_NOTE, RING_NOTE):
            for end in ("\n", "\n\n", "\r\n", "\r", " ", "\t", "\0"):
                self.assert_no_note(text + end)
                self.assert_no_note(end + text)
            self.assert_no_note(text.replace("\n", "\r\n"))
            self.assert_no_note(text.replace("\n", "\r"))
            self.assert_no_note(text.replace("\n", ""))

    def test_very_long_text(self):
        self.assert_no_note("." * 100000)
        self.assert_no_note("\n" * 100000)
        self.assert_no_note("\n".join(["........"] * 10000))

    def test_halves_that_do_not_fit_together(self):
        for spoilt in (
            "><", ">>", "<<", "<v", "^>", "<^", "v>", "<.>", ".>", "<.",
        ):
            self.assert_no_note(spoilt + EMPTY_NOTE[len(spoilt):])
        for upper, lower in ("v^", "^^", "vv", "^>", "<v", "^<", ">v"):
            self.assert_no_note(upper + EMPTY_NOTE[1:9] + lower + EMPTY_NOTE[10:])
        self.assert_no_note("^" + EMPTY_NOTE[1:18] + "v" + EMPTY_NOTE[19:])

    def test_halves_over_the_edge_of_the_board(self):
        lines = ["........"] * 8
        self.assert_no_note("\n".join([".......<", ">......."] + lines[2:]))
        self.assert_no_note("\n".join([">......<"] + lines[1:]))
        self.assert_no_note("\n".join(["v......."] + lines[2:] + ["^......."]))
        self.assert_no_note("\n".join(lines[1:] + ["^......."]))
        self.assert_no_note("\n".join(["v......."] + lines[1:]))
        self.assert_no_note("\n".join([">......."] + lines[1:]))
        self.assert_no_note("\n".join(lines[1:] + [".......<"]))

    def test_each_text_with_signs_in_a_block(self):
        for top, left, rows, columns in ((0, 0, 2, 2), (6, 6, 2, 2), (0, 6, 2, 2), (6, 0, 2, 2), (3, 2, 2, 3)):
            block = rectangle(top, left, rows, columns)
            notes = {}
            for floor in floors_within(block):
                for flags in layings_one_by_one(floor):
                    notes[note_by_words(floor, flags)] = (floor, flags)
            found = {}
            for signs in itertools.product(".<>^v", repeat=len(block)):
                text = list(EMPTY_NOTE)
                for (row, column), sign in zip(block, signs):
                    text[9 * row + column] = sign
                try:
                    found["".join(text)] = read("".join(text))
                except NoNote:
                    pass
            self.assertEqual(found, notes)


if __name__ == "__main__":
    unittest.main()
