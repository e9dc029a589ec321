"""Stairs: the stair of a list of points, its share, the counts of a point in its grid."""

from turngrid.errors import NoGrid
from turngrid.rows import row_less, row_mix
from turngrid.wholes import makings

NOWHERE = (0, 0, 0)


def stair_of(points):
    # A step that has not been met yet stands as NOWHERE.
    stair = [NOWHERE, NOWHERE, NOWHERE]
    for point in points:
        stair = lowered(widened(stair, point))
    if share(stair) == 0:
        raise NoGrid("the points lie in a plane through (0, 0, 0)")
    return stair


def widened(stair, point):
    steps = []
    rest = point
    for place in range(3):
        pair = step_and_rest(stair[place], rest, place)
        steps.append(pair[0])
        rest = pair[1]
    return steps


def step_and_rest(step, point, place):
    # Of the pair told come the same points as of the step and the point, and the rest has 0 at the place.
    made = makings(step[place], point[place])
    if made[0] == 0:
        return (step, point)
    often = step[place] // made[0]
    often_too = point[place] // made[0]
    return (row_mix(step, made[1], point, made[2]), row_mix(point, often, step, -often_too))


def lowered(stair):
    # Done behind each point, or the numbers would grow with every one.
    second = lowered_by(stair[1], stair[2], 2)
    first = lowered_by(stair[0], second, 1)
    return [lowered_by(first, stair[2], 2), second, stair[2]]


def lowered_by(point, step, place):
    if step[place] == 0:
        return point
    return row_less(point, step, point[place] // step[place])


def share(stair):
    return stair[0][0] * stair[1][1] * stair[2][2]


def counts(stair, point):
    found = ()
    rest = point
    for place in range(3):
        step = stair[place]
        often = rest[place] // step[place]
        rest = row_less(rest, step, often)
        found = found + (often,)
    if rest != NOWHERE:
        return None
    return found
