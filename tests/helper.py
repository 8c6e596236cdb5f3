"""Floors to try things on, and the words of DOC.md held against an answer, without the program's own code."""

VERY_GREAT = 10 ** 30
# Python refuses to write so long a number as a text: a refusal that shows it would fail.
TOO_LONG_TO_SHOW = 10 ** 5000


def drawn(*lines):
    """The floor of a picture: a # is a square, line 0 the upper one."""
    return [(row, column) for row, line in enumerate(lines) for column, sign in enumerate(line) if sign == "#"]


def rectangle(top, left, rows, columns):
    return [(row, column) for row in range(top, top + rows) for column in range(left, left + columns)]


def without(floor, *squares):
    return [square for square in floor if square not in squares]


BOARD = rectangle(0, 0, 8, 8)
RING = without(rectangle(2, 3, 3, 3), (3, 4))

NO_FLOORS = {
    "a square twice": [(0, 0), (0, 0)],
    "a square twice, not in a row": [(0, 0), (0, 1), (0, 0)],
    "rows out of order": [(1, 0), (0, 0)],
    "columns out of order": [(3, 4), (3, 3)],
    "by columns, then rows": [(0, 0), (1, 0), (0, 1), (1, 1)],
    "the last two out of order": [(0, 0), (0, 1), (7, 7), (7, 6)],
    "row below 0": [(-1, 0)],
    "column below 0": [(0, -1)],
    "row below 0, then good ones": [(-1, 3), (0, 3), (1, 3)],
    "row above 7": [(8, 0)],
    "column above 7": [(0, 8)],
    "column above 7 between good ones": [(0, 7), (0, 8), (1, 0)],
    "row above 7 behind good ones": [(7, 6), (7, 7), (8, 0)],
    "very great": [(0, 0), (VERY_GREAT, 0)],
    "very small": [(0, -VERY_GREAT), (0, 0)],
    "too long to show, row": [(TOO_LONG_TO_SHOW, 0)],
    "too long to show, column": [(0, -TOO_LONG_TO_SHOW)],
    "too long to show, column above": [(0, TOO_LONG_TO_SHOW)],
}


def steady_numbers(seed):
    """The same row of numbers from 0 to 15 on each run."""
    state = seed
    while True:
        state = (state * 6364136223846793005 + 1442695040888963407) % 2 ** 64
        yield state >> 60


def scattered_floors(count, seed):
    """Floors of the whole board, from thin ones to nearly full ones."""
    numbers = steady_numbers(seed)
    return [[square for square in BOARD if next(numbers) <= k % 16] for k in range(count)]


def floors_within(squares):
    """Each floor that has squares of this list alone."""
    for bits in range(2 ** len(squares)):
        yield [square for k, square in enumerate(squares) if bits >> k & 1]


def scattered_layings(count, seed):
    """Layings of floors that have one, made flag by flag: pairs (floor, flags)."""
    numbers = steady_numbers(seed)
    return [scattered_laying(numbers) for _ in range(count)]


def scattered_laying(numbers):
    covered = {}
    flags = []
    for row, column in BOARD:
        way = next(numbers) % 3
        other = (row, column + 1) if way == 0 else (row + 1, column)
        if way < 2 and max(other) < 8 and (row, column) not in covered and other not in covered:
            covered[(row, column)] = covered[other] = True
            flags.append((row, column, way))
    return sorted(covered), flags


def are_neighbours(one, other):
    if one[0] == other[0]:
        return abs(one[1] - other[1]) == 1
    return one[1] == other[1] and abs(one[0] - other[0]) == 1


def keeps_laying_words(floor, flags):
    """Point 4, word by word."""
    starts = [(row, column) for row, column, way in flags]
    if starts != sorted(starts) or any(way not in (0, 1) for row, column, way in flags):
        return False
    covered = starts + [(row, column + 1) if way == 0 else (row + 1, column) for row, column, way in flags]
    return all(covered.count(square) == 1 for square in floor) and all(square in floor for square in covered)


def keeps_wall_words(floor, squares):
    """Point 5, word by word."""
    if not squares or squares != sorted(set(squares)) or any(square not in floor for square in squares):
        return False
    if len({(row + column) % 2 for row, column in squares}) != 1:
        return False
    beside = [other for other in floor if any(are_neighbours(other, square) for square in squares)]
    return len(beside) < len(squares)


def keeps_plain_words(floor):
    """Point 3, by spreading over all places until nothing new is reached."""
    bare = {(row, column) for row in range(-1, 9) for column in range(-1, 9)} - set(floor)
    reached = {(-1, -1)}
    while True:
        spread = {
            place for place in bare
            if any((place[0] + down, place[1] + across) in reached for down in (-1, 0, 1) for across in (-1, 0, 1))
        }
        if spread == reached:
            return reached == bare
        reached = spread
