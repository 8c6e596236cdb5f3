"""Notes: a laying and its floor written as a text, and read back."""

from flagfloor.errors import NoNote
from flagfloor.floors import SIDE
from flagfloor.layings import check_laying, is_laying, squares_under

BARE = "."

# The signs on the two squares of a flag, across and down.
SIGNS = (("<", ">"), ("^", "v"))


def written(flags):
    signs = {}
    for flag in flags:
        for square, sign in zip(squares_under(flag), SIGNS[flag[2]]):
            signs[square] = sign
    lines = []
    for row in range(SIDE):
        lines.append("".join([signs.get((row, column), BARE) for column in range(SIDE)]))
    return "\n".join(lines)


def shown(floor, flags):
    check_laying(floor, flags)
    return written(flags)


def signs_by_square(text):
    lines = text.split("\n")
    if len(lines) != SIDE or any([len(line) != SIDE for line in lines]):
        raise NoNote("the text has not eight lines of eight signs")
    signs = {}
    for row, line in enumerate(lines):
        for column, sign in enumerate(line):
            signs[(row, column)] = sign
    return signs


def flags_begun(signs):
    flags = []
    for square, sign in signs.items():
        for way in (0, 1):
            if sign == SIGNS[way][0]:
                flags.append((square[0], square[1], way))
    return flags


# Writing what was read shows each sign that does not belong there.
def read(text):
    signs = signs_by_square(text)
    floor = [square for square, sign in signs.items() if sign != BARE]
    flags = flags_begun(signs)
    if not is_laying(floor, flags) or written(flags) != text:
        raise NoNote("the text does not show a laying of a floor")
    return (floor, flags)
