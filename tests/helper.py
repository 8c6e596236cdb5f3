"""Floors to try things on, and the words of DOC.md held against an answer, without the program's own code."""

VERY_GREAT = 10 ** 30
# Python refuses to write so long a number as a text: a refusal that shows it would fail.
TOO_LONG_TO_SHOW = 10 ** 5000


def drawn(*lines):
    """The floor of a picture: a # is a square, line 0 the upper one."""
    return [(row, column) for row, line in enumerate(lines) for column, sign in enumerate(line) if sign == "#"]


def rectangle(top, left, rows, columns):
    return [(row, column) for row in range(top, top + rows) for column in range(left, left + columns)]


def without(floor, *squares):
    return [square for square in floor if square not in squares]


BLOCK = rectangle(0, 0, 2, 2)
BLOCK_ACROSS = [(0, 0, 0), (1, 0, 0)]
BLOCK_DOWN = [(0, 0, 1), (0, 1, 1)]
BOARD = rectangle(0, 0, 8, 8)
BOARD_ACROSS = [(row, column, 0) for row in range(8) for column in range(0, 8, 2)]
BOARD_DOWN = [(row, column, 1) for row in range(0, 8, 2) for column in range(8)]
RING = without(rectangle(2, 3, 3, 3), (3, 4))
RING_ROUND = [(2, 3, 0), (2, 5, 1), (3, 3, 1), (4, 4, 0)]
# Floors with a hole that nevertheless have layings, and several of them.
HOLED_FLOORS = [
    RING,
    without(rectangle(0, 0, 4, 4), (1, 1), (2, 1)),
    without(BOARD, (3, 3), (5, 4)),
    sorted(RING + rectangle(6, 0, 2, 4)),
    without(BOARD, *rectangle(3, 3, 2, 2)),
]
# Plain floors with layings: pieces, pieces that meet in a corner, holes open over a corner, rows broken by gaps.
PLAIN_FLOORS = [
    [],
    [(7, 6), (7, 7)],
    BLOCK,
    rectangle(6, 6, 2, 2),
    rectangle(3, 1, 2, 6),
    rectangle(1, 5, 5, 2),
    rectangle(4, 3, 3, 4),
    rectangle(2, 2, 4, 4),
    drawn("####....", "########", "....####", "....####"),
    drawn("##..##", "##..##", "######", "######"),
    drawn(".##.", "####", "####", ".##."),
    drawn("##....##", "##....##", "..####..", "..####.."),
    drawn("......##", "......##", "##......", "##......"),
    drawn("##.###", "##.###", "######", "##.##."),
    drawn("..##....", "..##....", "##..####", "##..####", "..##....", "..##...."),
    drawn("###..", "#..##", "#####", "#####") + [(7, 0), (7, 1)],
]

NO_FLOORS = {
    "a square twice": [(0, 0), (0, 0)],
    "a square twice, not in a row": [(0, 0), (0, 1), (0, 0)],
    "rows out of order": [(1, 0), (0, 0)],
    "columns out of order": [(3, 4), (3, 3)],
    "by columns, then rows": [(0, 0), (1, 0), (0, 1), (1, 1)],
    "the last two out of order": [(0, 0), (0, 1), (7, 7), (7, 6)],
    "row below 0": [(-1, 0)],
    "column below 0": [(0, -1)],
    "row below 0, then good ones": [(-1, 3), (0, 3), (1, 3)],
    "row above 7": [(8, 0)],
    "column above 7": [(0, 8)],
    "column above 7 between good ones": [(0, 7), (0, 8), (1, 0)],
    "row above 7 behind good ones": [(7, 6), (7, 7), (8, 0)],
    "very great": [(0, 0), (VERY_GREAT, 0)],
    "very small": [(0, -VERY_GREAT), (0, 0)],
    "too long to show, row": [(TOO_LONG_TO_SHOW, 0)],
    "too long to show, column": [(0, -TOO_LONG_TO_SHOW)],
    "too long to show, column above": [(0, TOO_LONG_TO_SHOW)],
}


def steady_numbers(seed):
    """The same row of numbers from 0 to 15 on each run."""
    state = seed
    while True:
        state = (state * 6364136223846793005 + 1442695040888963407) % 2 ** 64
        yield state >> 60


def scattered_floors(count, seed):
    """Floors of the whole board, from thin ones to nearly full ones."""
    numbers = steady_numbers(seed)
    return [[square for square in BOARD if next(numbers) <= k % 16] for k in range(count)]


def floors_within(squares):
    """Each floor that has squares of this list alone."""
    for bits in range(2 ** len(squares)):
        yield [square for k, square in enumerate(squares) if bits >> k & 1]


def scattered_layings(count, seed):
    """Layings of floors that have one, made flag by flag: pairs (floor, flags)."""
    numbers = steady_numbers(seed)
    return [scattered_laying(numbers) for _ in range(count)]


def great_numbers(count, bound, seed):
    """The same numbers below a bound on each run."""
    numbers = steady_numbers(seed)
    return [int("".join(f"{next(numbers):x}" for _ in range(16)), 16) % bound for _ in range(count)]


def scattered_laying(numbers):
    covered = {}
    flags = []
    for row, column in BOARD:
        way = next(numbers) % 3
        other = (row, column + 1) if way == 0 else (row + 1, column)
        if way < 2 and max(other) < 8 and (row, column) not in covered and other not in covered:
            covered[(row, column)] = covered[other] = True
            flags.append((row, column, way))
    return sorted(covered), flags


def are_neighbours(one, other):
    if one[0] == other[0]:
        return abs(one[1] - other[1]) == 1
    return one[1] == other[1] and abs(one[0] - other[0]) == 1


def keeps_laying_words(floor, flags):
    """Point 4, word by word."""
    starts = [(row, column) for row, column, way in flags]
    if starts != sorted(starts) or any(way not in (0, 1) for row, column, way in flags):
        return False
    covered = starts + [(row, column + 1) if way == 0 else (row + 1, column) for row, column, way in flags]
    return all(covered.count(square) == 1 for square in floor) and all(square in floor for square in covered)


def layings_one_by_one(floor):
    """All layings of a floor in any order, found from the last square backwards."""
    if not floor:
        return [[]]
    row, column = floor[-1]
    found = []
    for first, way in (((row - 1, column), 1), ((row, column - 1), 0)):
        if first in floor:
            rest = without(floor, first, floor[-1])
            found.extend(sorted(flags + [first + (way,)]) for flags in layings_one_by_one(rest))
    return found


def some_laying(floor, numbers):
    """A laying of a floor that has one, now this one and now that."""
    dead_ends = set()

    def laid(bare):
        if not bare:
            return []
        row, column = bare[0]
        choices = [((row, column + 1), 0), ((row + 1, column), 1)]
        for other, way in choices[::-1] if next(numbers) % 2 else choices:
            rest = tuple(without(bare[1:], other))
            if other in bare and rest not in dead_ends:
                flags = laid(rest)
                if flags is not None:
                    return [(row, column, way)] + flags
        dead_ends.add(bare)
        return None

    return laid(tuple(floor))


def many_layings(seed):
    """Pairs (floor, flags), on floors with holes and without, the whole board among them."""
    numbers = steady_numbers(seed)
    pairs = [(floor, flags) for floor in PLAIN_FLOORS for flags in layings_one_by_one(floor)]
    pairs += [(floor, some_laying(floor, numbers)) for floor in (HOLED_FLOORS + [BOARD]) * 12]
    return pairs + [(BOARD, BOARD_ACROSS), (BOARD, BOARD_DOWN)] + scattered_layings(40, seed + 1)


def comes_first(ones, others):
    """Point 6, word by word, for two different layings of one floor."""
    one, other = next((one, other) for one, other in zip(ones, others) if one != other)
    if one[:2] != other[:2]:
        raise AssertionError("they first differ in flags that begin on different squares")
    return (one[2], other[2]) == (0, 1)


def turn_by_words(flags, corner):
    """Points 7 and 8, word by word: (the laying behind the turn, whether it rises), or None."""
    row, column = corner
    if not (1 <= row <= 7 and 1 <= column <= 7):
        return None
    across = [(row - 1, column - 1, 0), (row, column - 1, 0)]
    down = [(row - 1, column - 1, 1), (row - 1, column, 1)]
    for pair, other_pair in ((across, down), (down, across)):
        if pair[0] in flags and pair[1] in flags:
            behind = sorted([flag for flag in flags if flag not in pair] + other_pair)
            odd = (row + column) % 2 == 1
            return behind, pair == (across if odd else down)
    return None


def is_inner(floor, corner):
    row, column = corner
    return all(square in floor for square in rectangle(row - 1, column - 1, 2, 2))


def inner_by_words(floor):
    """Point 7, word by word."""
    return [corner for corner in rectangle(1, 1, 7, 7) if is_inner(floor, corner)]


def gap_by_words(floor, ones, others, corner):
    """Point 9, word by word."""
    row, column = corner
    if not is_inner(floor, corner):
        return 0
    gap = gap_by_words(floor, ones, others, (row, column - 1))
    flag = (row - 1, column - 1, 1)
    if (row + column) % 2 == 0:
        gap += 1 if flag in ones else 0
        gap -= 1 if flag in others else 0
    else:
        gap -= 1 if flag in ones else 0
        gap += 1 if flag in others else 0
    return gap


def note_by_words(floor, flags):
    """Point 13, word by word."""
    board = [["."] * 8 for _ in range(8)]
    for row, column, way in flags:
        board[row][column] = "<" if way == 0 else "^"
        if way == 0:
            board[row][column + 1] = ">"
        else:
            board[row + 1][column] = "v"
    return "\n".join("".join(line) for line in board)


def keeps_wall_words(floor, squares):
    """Point 5, word by word."""
    if not squares or squares != sorted(set(squares)) or any(square not in floor for square in squares):
        return False
    if len({(row + column) % 2 for row, column in squares}) != 1:
        return False
    beside = [other for other in floor if any(are_neighbours(other, square) for square in squares)]
    return len(beside) < len(squares)


def keeps_plain_words(floor):
    """Point 3, by spreading over all places until nothing new is reached."""
    bare = {(row, column) for row in range(-1, 9) for column in range(-1, 9)} - set(floor)
    reached = {(-1, -1)}
    while True:
        spread = {
            place for place in bare
            if any((place[0] + down, place[1] + across) in reached for down in (-1, 0, 1) for across in (-1, 0, 1))
        }
        if spread == reached:
            return reached == bare
        reached = spread
