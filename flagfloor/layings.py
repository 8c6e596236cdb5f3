"""Layings: which lists are layings of a floor, and a laying or a wall for each floor."""

from flagfloor.errors import NoLaying
from flagfloor.floors import check_floor, marked, neighbours


def squares_under(flag):
    row = flag[0]
    column = flag[1]
    if flag[2] == 0:
        return [(row, column), (row, column + 1)]
    return [(row, column), (row + 1, column)]


def are_in_order(flags):
    return all([earlier[:2] < later[:2] for earlier, later in zip(flags, flags[1:])])


def all_under(flags):
    squares = []
    for flag in flags:
        squares.extend(squares_under(flag))
    return sorted(squares)


# A floor names each of its squares once and in order, so equal lists mean: covered once each, and nothing else.
def is_laying(floor, flags):
    check_floor(floor)
    if not all([flag[2] in (0, 1) for flag in flags]):
        return False
    return are_in_order(flags) and all_under(flags) == floor


def check_laying(floor, flags):
    if not is_laying(floor, flags):
        raise NoLaying("the flags are no laying of the floor")


# Neighbours always differ in this, so it parts the floor into two halves, and each flag covers one of each.
def half_of(floor, parity):
    return [square for square in floor if (square[0] + square[1]) % 2 == parity]


# If each square of the larger half finds a partner, none is left over in the other half.
def larger_half(floor):
    even = half_of(floor, 0)
    odd = half_of(floor, 1)
    return even if len(even) >= len(odd) else odd


# A partner already taken is free again when its holder finds another one. Each call adds to the tried ones, of which
# a floor has at most 32, so the calls go no deeper than that.
def finds_partner(square, squares, holders, tried):
    for near in neighbours(square, squares):
        if near not in tried:
            tried[near] = True
            if near not in holders or finds_partner(holders[near], squares, holders, tried):
                holders[near] = square
                return True
    return False


# All neighbours of the square and of the holders met on its search were tried, and each has just one holder:
# so they are one fewer.
def wall_from(square, holders, tried):
    return sorted([square] + [holders[near] for near in tried])


def flag_over(one, other):
    first = min(one, other)
    return (first[0], first[1], 0 if one[0] == other[0] else 1)


def lay(floor):
    check_floor(floor)
    squares = marked(floor)
    holders = {}
    for square in larger_half(floor):
        tried = {}
        if not finds_partner(square, squares, holders, tried):
            return ("wall", wall_from(square, holders, tried))
    return ("laid", sorted([flag_over(near, square) for near, square in holders.items()]))
