"""Dials: the points that a dial says, their stair, a turn that shares just these."""

from turngrid.errors import NoDial
from turngrid.rows import row_times
from turngrid.stones import common
from turngrid.turns import turn_of
from turngrid.wholes import divisor, makings


def says(dial, point):
    return row_times(dial[0], point) % dial[1] == 0


def dial_stair(dial):
    w = dial[0]
    m = dial[1]
    # Some x and y can be filled up by a z just where last[0] divides their sum, some x by a y and a z just where
    # middle[0] does; last[1] and middle[1] tell by which z and which y.
    last = makings(w[2], m)
    middle = makings(w[1], last[0])
    a = middle[0]
    d = last[0] // middle[0]
    f = m // last[0]
    b = -w[0] * middle[1] % d
    c = -((w[0] * a + w[1] * b) // last[0]) * last[1] % f
    e = -(w[1] * d // last[0]) * last[1] % f
    return [(a, b, c), (0, d, e), (0, 0, f)]


def turn_of_dial(dial):
    w = dial[0]
    m = dial[1]
    if not has_turn(dial):
        raise NoDial("no turn shares just the points of this dial")
    # What m and w, as stones, have in common on the left weighs m, and is w times something but for multiples of m.
    # So each column of the table of its turn is a multiple of w but for multiples of m.
    return turn_of(common((2 * m, 0, 0, 0), (0, 2 * w[0], 2 * w[1], 2 * w[2]))[0])


def has_turn(dial):
    w = dial[0]
    m = dial[1]
    return m % 2 == 1 and row_times(w, w) % m == 0 and divisor(w + (m,)) == 1
