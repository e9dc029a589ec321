"""Quads: the product, the mirrored quad, the size, the plain quad."""

from turngrid.errors import NoQuad
from turngrid.rows import row_over, row_times
from turngrid.wholes import divisor


def product(one, other):
    return (
        one[0] * other[0] - one[1] * other[1] - one[2] * other[2] - one[3] * other[3],
        one[0] * other[1] + one[1] * other[0] + one[2] * other[3] - one[3] * other[2],
        one[0] * other[2] - one[1] * other[3] + one[2] * other[0] + one[3] * other[1],
        one[0] * other[3] + one[1] * other[2] - one[2] * other[1] + one[3] * other[0],
    )


def mirrored(quad):
    return (quad[0], -quad[1], -quad[2], -quad[3])


def size(quad):
    return row_times(quad, quad)


def plain(quad):
    shrink = divisor(quad)
    if shrink == 0:
        raise NoQuad("the quad of four noughts has no plain quad")
    if leads_below_nought(quad):
        shrink = -shrink
    return row_over(quad, shrink)


def leads_below_nought(quad):
    # Tuples are compared by the first place where they differ: here the first number other than 0.
    return quad < (0, 0, 0, 0)
