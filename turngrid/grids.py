"""Grids, told by their stairs: the joined stair of two, the met stair of two."""

from turngrid.stairs import share, stair_of


def joined(one, other):
    return stair_of(one + other)


def met(one, other):
    # A point is in a grid just where n divides its products with the grid's weights, so in both just where n divides
    # its products with the weights of both. Both shares divide n, for else the weights might not be whole.
    n = share(one) * share(other)
    both = stair_of(weights(one, n) + weights(other, n))
    return stair_of(weights(both, n))


def weights(stair, n):
    # Each weight times the stair's point at its place is n, times the two other points it is 0.
    first = stair[0]
    second = stair[1]
    z = n // stair[2][2]
    y = -second[2] * z // second[1]
    x = -(first[1] * y + first[2] * z) // first[0]
    middle = n // second[1]
    return [(n // first[0], 0, 0), (-first[1] * middle // first[0], middle, 0), (x, y, z)]
