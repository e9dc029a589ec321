"""What the document's sentences say, written out once more for the tests, and kinds that many of them ask for."""

import itertools
import math
from fractions import Fraction


def dot(one, other):
    return sum(x * y for x, y in zip(one, other))


def times(factor, row):
    return tuple(factor * number for number in row)


def determinant(rows):
    (a, b, c), (d, e, f), (g, h, i) = rows
    return a * e * i + b * f * g + c * d * h - c * e * g - b * d * i - a * f * h


def fractions_of(turn):
    return [[Fraction(number, turn[1]) for number in row] for row in turn[0]]


def led(table, spot):
    return [sum(number * coordinate for number, coordinate in zip(row, spot)) for row in table]


def after_by_the_tables(one, other):
    columns = list(zip(*other[0]))
    rows = [[dot(row, column) for column in columns] for row in one[0]]
    bottom = one[1] * other[1]
    shrink = math.gcd(bottom, *rows[0], *rows[1], *rows[2])
    return tuple(tuple(number // shrink for number in row) for row in rows), bottom // shrink


def is_turn_by_the_sentence(thing):
    rows, bottom = thing
    return (
        bottom >= 1
        and all(dot(row, row) == bottom * bottom for row in rows)
        and all(dot(one, other) == 0 for one, other in itertools.combinations(rows, 2))
        and determinant(rows) == bottom * bottom * bottom
        and math.gcd(bottom, *rows[0], *rows[1], *rows[2]) == 1
    )


def is_turn_in_kind(turn):
    rows, bottom = turn
    return (
        [type(part) for part in (turn, rows) + rows] == [tuple] * 5
        and [len(row) for row in rows] == [3] * 3
        and [type(number) for row in rows for number in row] == [int] * 9
        and type(bottom) is int
    )


def is_shared_by_the_sentence(turn, point):
    # The columns of a turn's table are the rows of the table that leads back.
    rows, bottom = turn
    return all(dot(column, point) % bottom == 0 for column in zip(*rows))


def made_of(stair, often):
    return tuple(sum(count * point[place] for count, point in zip(often, stair)) for place in range(3))


def is_stair(stair):
    (a, b, c), (zero, d, e), (nought, none, f) = stair
    return (zero, nought, none) == (0, 0, 0) and min(a, d, f) > 0 and 0 <= b < d and 0 <= c < f and 0 <= e < f


def is_stair_in_kind(stair):
    return (
        type(stair) is list
        and [type(point) for point in stair] == [tuple] * 3
        and [[type(number) for number in point] for point in stair] == [[int] * 3] * 3
    )
