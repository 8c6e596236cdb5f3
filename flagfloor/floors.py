"""Floors: which lists are floors, which floors are plain, and where four squares meet."""

from flagfloor.errors import NoFloor

SIDE = 8
PLACES = 100


def on_board(square):
    return 0 <= square[0] < SIDE and 0 <= square[1] < SIDE


# The refusals bear no numbers: one that is handed in may be too long to be written as a text.
def check_floor(floor):
    for square in floor:
        if not on_board(square):
            raise NoFloor("a square lies beyond the board")
    for earlier, later in zip(floor, floor[1:]):
        if not earlier < later:
            raise NoFloor("the squares are not in their order, each once")


def marked(floor):
    return dict([(square, True) for square in floor])


def neighbours(square, squares):
    row = square[0]
    column = square[1]
    near = [(row - 1, column), (row, column - 1), (row, column + 1), (row + 1, column)]
    return [other for other in near if other in squares]


# The place itself is among them: whoever walks from it has reached it already.
def places_about(place):
    about = []
    for row in range(max(place[0] - 1, -1), min(place[0] + 1, SIDE) + 1):
        for column in range(max(place[1] - 1, -1), min(place[1] + 1, SIDE) + 1):
            about.append((row, column))
    return about


def reached_outside(squares):
    start = (-1, -1)
    reached = {start: True}
    waiting = [start]
    while waiting:
        place = waiting.pop()
        for near in places_about(place):
            if near not in squares and near not in reached:
                reached[near] = True
                waiting.append(near)
    return reached


def is_plain(floor):
    check_floor(floor)
    return len(reached_outside(marked(floor))) + len(floor) == PLACES


def squares_at(corner):
    row = corner[0]
    column = corner[1]
    return [(row - 1, column - 1), (row - 1, column), (row, column - 1), (row, column)]


# A corner has the numbers of its lower right square, so the floor's own order is the order asked for.
def inner(floor):
    check_floor(floor)
    squares = marked(floor)
    return [corner for corner in floor if all([square in squares for square in squares_at(corner)])]
