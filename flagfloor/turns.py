"""Turns: where two flags of a laying can be turned, the laying behind a turn, and whether the turn rises."""

from flagfloor.errors import NoTurn
from flagfloor.floors import inner
from flagfloor.layings import check_laying


def pair_at(corner, way):
    row = corner[0]
    column = corner[1]
    if way == 0:
        return [(row - 1, column - 1, 0), (row, column - 1, 0)]
    return [(row - 1, column - 1, 1), (row - 1, column, 1)]


def has_pair(flags, corner, way):
    return all([flag in flags for flag in pair_at(corner, way)])


# 1 where a turn would rise, -1 where it would fall, 0 where there is none.
def slope(flags, corner):
    rising_way = 1 - (corner[0] + corner[1]) % 2
    if has_pair(flags, corner, rising_way):
        return 1
    if has_pair(flags, corner, 1 - rising_way):
        return -1
    return 0


# Only for a corner where the laying can be turned.
def turned_at(flags, corner):
    way = 0 if has_pair(flags, corner, 0) else 1
    pair = pair_at(corner, way)
    return sorted([flag for flag in flags if flag not in pair] + pair_at(corner, 1 - way))


# A corner beyond 1 to 7 needs no look of its own: no two flags of a laying lie about it.
def check_turn(flags, corner):
    if slope(flags, corner) == 0:
        raise NoTurn("the laying can't be turned at this corner")


def corners(floor, flags):
    check_laying(floor, flags)
    return [corner for corner in inner(floor) if slope(flags, corner) != 0]


def turned(floor, flags, corner):
    check_laying(floor, flags)
    check_turn(flags, corner)
    return turned_at(flags, corner)


def rises(floor, flags, corner):
    check_laying(floor, flags)
    check_turn(flags, corner)
    return slope(flags, corner) == 1
