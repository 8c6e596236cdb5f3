"""Numbers of layings: how many a floor has, which one bears a number, and which number one bears."""

from flagfloor.errors import NoNumber
from flagfloor.floors import check_floor
from flagfloor.layings import check_laying

# Many layings leave the same squares bare, so these are kept as one whole number, a bit for each square, that a dict
# finds at once. A row has a bit more than squares: it is never set, so no flag goes on into the next row.
ROW_BITS = 9

# The bits under a flag that begins on the first bit, across and down.
SPANS = (3, 513)


def bits_of(floor):
    return sum([1 << (ROW_BITS * square[0] + square[1]) for square in floor])


def first_square(bare):
    return divmod((bare & -bare).bit_length() - 1, ROW_BITS)


# The first bare square has nothing bare to the left or above, so the flag over it begins on it.
def span_on_first(bare, way):
    return (bare & -bare) * SPANS[way]


# Each call lays one flag, of which a floor has at most 32, so the two defs call one another no deeper than that.
def ways_with(bare, way, known):
    span = span_on_first(bare, way)
    if (bare & span) != span:
        return 0
    return ways_over(bare - span, known)


def ways_over(bare, known):
    if bare == 0:
        return 1
    if bare not in known:
        known[bare] = ways_with(bare, 0, known) + ways_with(bare, 1, known)
    return known[bare]


def ways(floor):
    check_floor(floor)
    return ways_over(bits_of(floor), {})


# With the same flags up to here, all layings that go on across come ahead of all that go on down.
def told(floor, number):
    check_floor(floor)
    bare = bits_of(floor)
    known = {}
    if not 0 <= number < ways_over(bare, known):
        raise NoNumber("no laying of the floor has this number")
    flags = []
    ahead = 0
    while bare != 0:
        across = ways_with(bare, 0, known)
        way = 0 if number < ahead + across else 1
        if way == 1:
            ahead = ahead + across
        flags.append(first_square(bare) + (way,))
        bare = bare - span_on_first(bare, way)
    return flags


def number_of(floor, flags):
    check_laying(floor, flags)
    bare = bits_of(floor)
    known = {}
    ahead = 0
    for flag in flags:
        if flag[2] == 1:
            ahead = ahead + ways_with(bare, 0, known)
        bare = bare - span_on_first(bare, flag[2])
    return ahead
