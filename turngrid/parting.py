"""Turns parted: a turn told as turns with given bottoms behind one another, and a turn of the cube."""

from turngrid.errors import NoParts
from turngrid.stones import common
from turngrid.turns import quad_of, turn_of


def parted(turn, sizes):
    if not is_product(turn[1], sizes):
        raise NoParts("the bottom of the turn is not the product of these sizes")
    parts = []
    rest = tuple([2 * number for number in quad_of(turn)])
    # No odd number above 1 divides the quad, nor what is left of it. So what a size and the rest have in common on
    # the left weighs just the size, and is divided by no such number either: its turn has that bottom.
    for part in sizes:
        found = common((2 * part, 0, 0, 0), rest)
        parts.append(turn_of(found[0]))
        rest = found[4]
    parts.append(turn_of(rest))
    return parts


def is_product(n, sizes):
    made = 1
    for part in sizes:
        # No turn has a bottom below 1, whatever the product is.
        if part < 1:
            return False
        made = made * part
    return made == n
