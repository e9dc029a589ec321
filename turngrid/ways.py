"""Ways: a turn that moves a point to another one, a turn told by two half turns, the order of a turn."""

from turngrid.errors import NoWay
from turngrid.quads import product
from turngrid.rows import row_mix, row_times
from turngrid.turns import quad_of, turn_of

# The orders of the turns whose slant is the bottom -1, 0, 1, 2, 3 times.
ORDERS = (2, 3, 4, 6, 1)


def bringing(one, other):
    if row_times(one, one) != row_times(other, other):
        raise NoWay("the points have unlike sums of squares")
    # Both points are as long, so that the half turn about the middle of both swaps them.
    middle = row_mix(one, 1, other, 1)
    if middle == (0, 0, 0):
        middle = right_angled(one)
    return half_turn(middle)


def half_turn(point):
    return turn_of((0,) + point)


def right_angled(point):
    # A point other than (0, 0, 0) whose product with the one handed in is 0.
    if point[0] == 0:
        return (1, 0, 0)
    return (-point[1], point[0], 0)


def half_turns(turn):
    quad = quad_of(turn)
    # With a point at right angles to its last three numbers the quad makes a product whose first number is 0. A half
    # turn leads back to where it came from: so the product's half turn after the point's is the turn.
    second = right_angled(quad[1:])
    return (product(quad, (0,) + second)[1:], second)


def order(turn):
    # The slant over the bottom is 1 and twice the cosine of the turn's angle: from -1 to 3, and for an angle that
    # goes some whole times into whole rounds it is whole.
    slant = sum([turn[0][place][place] for place in range(3)])
    if slant % turn[1] != 0:
        return None
    return ORDERS[slant // turn[1] + 1]
