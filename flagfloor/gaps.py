"""Gaps: how far two layings of a plain floor lie apart, and the turns that lead from one to another."""

from flagfloor.errors import NotPlain
from flagfloor.floors import inner, is_plain
from flagfloor.layings import check_laying
from flagfloor.turns import slope, turned_at


def check_plain(floor):
    if not is_plain(floor):
        raise NotPlain("the floor has a hole that does not touch the outside")


def check_one(floor, flags):
    check_plain(floor)
    check_laying(floor, flags)


def check_both(floor, ones, others):
    check_plain(floor)
    check_laying(floor, ones)
    check_laying(floor, others)


def gap_step(corner, ones, others):
    flag = (corner[0] - 1, corner[1] - 1, 1)
    step = 0
    if flag in ones:
        step = step + 1
    if flag in others:
        step = step - 1
    return step if (corner[0] + corner[1]) % 2 == 0 else -step


# Inner corners come by rows, then columns, so the corner to the left is there already, or is not inner.
def gap_by_corner(floor, ones, others):
    found = {}
    for corner in inner(floor):
        left = found.get((corner[0], corner[1] - 1), 0)
        found[corner] = left + gap_step(corner, ones, others)
    return found


# While a gap is left, some shortest row to the goal begins with a turn that makes a gap smaller. Any such turn will
# do: the gaps behind it are again those of two layings.
def led(flags, wanted):
    laid = list(flags)
    left = dict(wanted)
    made = []
    while any([gap != 0 for gap in left.values()]):
        for corner in wanted:
            direction = slope(laid, corner)
            if direction * left[corner] > 0:
                laid = turned_at(laid, corner)
                left[corner] = left[corner] - direction
                made.append(corner)
    return (made, laid)


# There is just one laying without such a turn, so it does not matter which turns are made on the way.
def led_to_end(floor, flags, direction):
    laid = list(flags)
    found = True
    while found:
        found = False
        for corner in inner(floor):
            if slope(laid, corner) == direction:
                laid = turned_at(laid, corner)
                found = True
    return laid


def gaps(floor, ones, others):
    check_both(floor, ones, others)
    return [(corner[0], corner[1], gap) for corner, gap in gap_by_corner(floor, ones, others).items()]


def way(floor, ones, others):
    check_both(floor, ones, others)
    return led(ones, gap_by_corner(floor, ones, others))[0]


def upper(floor, ones, others):
    check_both(floor, ones, others)
    apart = gap_by_corner(floor, ones, others)
    return led(ones, dict([(corner, max(gap, 0)) for corner, gap in apart.items()]))[1]


def lower(floor, ones, others):
    check_both(floor, ones, others)
    apart = gap_by_corner(floor, ones, others)
    return led(ones, dict([(corner, min(gap, 0)) for corner, gap in apart.items()]))[1]


def highest(floor, flags):
    check_one(floor, flags)
    return led_to_end(floor, flags, 1)


def lowest(floor, flags):
    check_one(floor, flags)
    return led_to_end(floor, flags, -1)
