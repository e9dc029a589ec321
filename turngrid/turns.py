"""Turns: of a quad and back to it, one after another, the back turn, where points go, the turns of the cube."""

from turngrid.errors import NoQuad
from turngrid.quads import plain, product, size
from turngrid.rows import row_over, row_times
from turngrid.wholes import divisor, odd_part


def turn_of(quad):
    bottom = size(quad)
    if bottom == 0:
        raise NoQuad("the quad of four noughts has no turn")
    rows = rows_of(quad)
    shrink = table_divisor(rows, bottom)
    return ((row_over(rows[0], shrink), row_over(rows[1], shrink), row_over(rows[2], shrink)), bottom // shrink)


def rows_of(quad):
    a = quad[0]
    b = quad[1]
    c = quad[2]
    d = quad[3]
    return (
        (a * a + b * b - c * c - d * d, 2 * b * c - 2 * a * d, 2 * b * d + 2 * a * c),
        (2 * b * c + 2 * a * d, a * a - b * b + c * c - d * d, 2 * c * d - 2 * a * b),
        (2 * b * d - 2 * a * c, 2 * c * d + 2 * a * b, a * a - b * b - c * c + d * d),
    )


def table_divisor(rows, bottom):
    return divisor(rows[0] + rows[1] + rows[2] + (bottom,))


def quad_of(turn):
    # The greatest of the multiples, for some of them may be four noughts.
    return plain(max(multiples_of_quad(turn), key=size))


def multiples_of_quad(turn):
    # Sums and differences of the table's numbers are 4 a a, 4 a b, .. 4 d d, all divided by the same number.
    # So each tuple told here is a multiple of the quad: by a, by b, by c and by d.
    rows = turn[0]
    bottom = turn[1]
    x = rows[0][0]
    y = rows[1][1]
    z = rows[2][2]
    ab = rows[2][1] - rows[1][2]
    ac = rows[0][2] - rows[2][0]
    ad = rows[1][0] - rows[0][1]
    bc = rows[1][0] + rows[0][1]
    bd = rows[0][2] + rows[2][0]
    cd = rows[2][1] + rows[1][2]
    return [
        (bottom + x + y + z, ab, ac, ad),
        (ab, bottom + x - y - z, bc, bd),
        (ac, bc, bottom - x + y - z, cd),
        (ad, bd, cd, bottom - x - y + z),
    ]


def is_turn(thing):
    rows = thing[0]
    bottom = thing[1]
    if bottom < 1 or table_divisor(rows, bottom) != 1:
        return False
    return keeps_lengths_and_angles(rows, bottom) and determinant(rows) == bottom ** 3


def keeps_lengths_and_angles(rows, bottom):
    for place in range(3):
        row = rows[place]
        if row_times(row, row) != bottom * bottom:
            return False
        # The row ahead of the first is the last, so each two rows meet once.
        if row_times(row, rows[place - 1]) != 0:
            return False
    return True


def determinant(rows):
    one = rows[1]
    other = rows[2]
    across = (
        one[1] * other[2] - one[2] * other[1],
        one[2] * other[0] - one[0] * other[2],
        one[0] * other[1] - one[1] * other[0],
    )
    return row_times(rows[0], across)


def after(one, other):
    return turn_of(product(quad_of(one), quad_of(other)))


def back(turn):
    # The rows are at right angles and each as long as the bottom, so the table of the columns leads back.
    rows = turn[0]
    return ((column(rows, 0), column(rows, 1), column(rows, 2)), turn[1])


def column(rows, place):
    return tuple([row[place] for row in rows])


def moved(turn, point):
    spot = tuple([row_times(row, point) for row in turn[0]]) + (turn[1],)
    return row_over(spot, divisor(spot))


def cube_turns():
    return sorted([turn_of(quad) for quad in small_quads() if is_cube_quad(quad)])


def small_quads():
    found = [()]
    for place in range(4):
        longer = []
        for number in (-1, 0, 1):
            longer.extend([begun + (number,) for begun in found])
        found = longer
    return found


def is_cube_quad(quad):
    # A quad and its multiple by -1 have the same turn: only the plain one of both counts.
    return quad > (0, 0, 0, 0) and odd_part(size(quad)) == 1
