"""Shared points of a turn: whether a point is one, their stair, their dial, whether two turns share the same."""

from turngrid.dials import dial_stair
from turngrid.rows import row_mix
from turngrid.turns import after, back, moved
from turngrid.wholes import divisor, part_without


def is_shared(turn, point):
    return moved(back(turn), point)[3] == 1


def shared_stair(turn):
    return dial_stair(dial_of(turn))


def dial_of(turn):
    # But for multiples of the bottom, the back turn's rows are multiples of one row, which says the shared points.
    # So does each sum of the rows, taken as often as one likes, whose numbers have no prime of the bottom in common.
    # Each row is taken so often that no such prime comes and each one goes away that the row doesn't have as well.
    bottom = turn[1]
    w = (0, 0, 0)
    for row in back(turn)[0]:
        w = row_mix(w, 1, row, part_without(bottom, divisor(w)))
    return (tuple([number % bottom for number in w]), bottom)


def share_alike(one, other):
    return after(back(one), other)[1] == 1
