"""Stones: the product, the weight, one divided by another, what two have in common on the left."""

from turngrid.errors import NoStone
from turngrid.quads import mirrored, product, size
from turngrid.rows import row_less, row_over

NOUGHT = (0, 0, 0, 0)
ONE = (2, 0, 0, 0)


def stone_product(one, other):
    return row_over(product(one, other), 2)


def weight(stone):
    return size(stone) // 4


def divided(x, y):
    if y == NOUGHT:
        raise NoStone("by the stone of four noughts nothing is divided")
    # The mirrored y times y is y's weight: so this over the weight is the k, perhaps no stone, that leaves no rest.
    aim = stone_product(mirrored(y), x)
    by_even = with_rest(x, y, even_stone_near(aim, weight(y)))
    by_odd = with_rest(x, y, odd_stone_near(aim, weight(y)))
    # A number's distances to the nearest even and the nearest odd one sum to 1, so that one of both rests
    # weighs at most half of what y weighs.
    if weight(by_even[1]) <= weight(by_odd[1]):
        return by_even
    return by_odd


def with_rest(x, y, k):
    return (k, row_less(x, stone_product(y, k), 1))


def even_stone_near(aim, bottom):
    return tuple([2 * ((number + bottom) // (2 * bottom)) for number in aim])


def odd_stone_near(aim, bottom):
    return tuple([2 * (number // (2 * bottom)) + 1 for number in aim])


def common(x, y):
    if x == NOUGHT and y == NOUGHT:
        return (NOUGHT, NOUGHT, NOUGHT, NOUGHT, NOUGHT)
    # Each row (s, a, b) keeps s = x a + y b, and what both rows' s have in common stays what x and y have.
    row = (x, ONE, NOUGHT)
    below = (y, NOUGHT, ONE)
    while below[0] != NOUGHT:
        k = divided(row[0], below[0])[0]
        rest = tuple([row_less(row[place], stone_product(below[place], k), 1) for place in range(3)])
        row = below
        below = rest
    s = row[0]
    return (s, row[1], row[2], divided(x, s)[0], divided(y, s)[0])
