"""Points [21] and [22]: turns that move a point to another one, half turns, orders."""

import itertools
import unittest
from collections import Counter

from reference import after_by_the_tables, dot, is_turn_by_the_sentence, is_turn_in_kind, times
from turngrid import errors
from turngrid.turns import after, back, cube_turns, turn_of
from turngrid.ways import bringing, half_turns, order

LEAVES_ALL = (((1, 0, 0), (0, 1, 0), (0, 0, 1)), 1)
THIRTY = 123456789012345678901234567891
LARGE = 10 ** 300 - 1
AXES = [(x, 0, 0) for x in (-7, 1, 4)] + [(0, y, 0) for y in (-1, 2)] + [(0, 0, z) for z in (-3, 1, 12)]
POINTS = AXES + [
    (1, 2, 3), (1, 0, -1), (0, 4, 4), (-2, 7, 0), (5, 5, 5), (THIRTY, -THIRTY ** 2, 7 ** 70), (10 ** 59, 0, 3 ** 125),
    (LARGE, -LARGE, 1), (0, 0, LARGE), (0, 7 ** 350, 0),
]
SMALL_QUADS = [quad for quad in itertools.product((-2, -1, 0, 1, 3), repeat=4) if quad > (0, 0, 0, 0)]
LARGE_QUADS = [
    (THIRTY, -THIRTY + 2, 10 ** 30, 7 ** 36), (0, THIRTY, 3 ** 62, -(10 ** 29)), (THIRTY, 0, 0, 10 ** 30),
    (10 ** 40, 3 ** 80, 0, 0), (2, 0, 5 ** 60, 0), (LARGE, -LARGE, LARGE - 2, 1), (-LARGE, 0, 7 ** 350, -(3 ** 600)),
    (0, 0, 3 ** 600, LARGE),
]
SMALL_TURNS = sorted({turn_of(quad) for quad in SMALL_QUADS})
LARGE_TURNS = [turn_of(quad) for quad in LARGE_QUADS]
# Quads (a, b, c, d) with b b + c c + d d being a a taken thrice, once, and over 3.
OF_ORDER = {
    2: [(0, 1, 1, 1), (0, 2, 1, 0), (0, 5, -7, 3), (0, THIRTY, -LARGE, 2)],
    3: [(3, 5, 1, 1), (3, -1, 5, 1), (1, 1, 1, -1), (9, 15, 3, -3), (7, 11, 1, 5)],
    4: [(3, 2, 2, 1), (3, 2, -1, 2), (7, 6, 3, 2), (9, 8, -4, 1), (-11, 9, 6, 2)],
    6: [(3, 1, 1, 1), (3, -1, 1, 1), (9, 5, 1, 1), (-9, 1, -5, 1), (21, 11, 1, 5)],
}


def points_by_sums():
    found = {}
    for point in itertools.product(range(-3, 4), repeat=3):
        found.setdefault(dot(point, point), []).append(point)
    return found


class BringingTest(unittest.TestCase):
    def check(self, one, other):
        found = bringing(one, other)
        self.assertTrue(is_turn_in_kind(found), found)
        self.assertTrue(is_turn_by_the_sentence(found), (one, other, found))
        self.assertEqual(tuple(dot(row, one) for row in found[0]), times(found[1], other), (one, other, found))
        self.assertEqual(bringing(one, other), found)
        return found

    def refused(self, one, other):
        with self.assertRaises(errors.NoWay, msg=(one, other)):
            bringing(one, other)

    def test_to_itself(self):
        for point in POINTS:
            self.check(point, point)

    def test_to_its_opposite(self):
        for point in POINTS:
            self.check(point, times(-1, point))

    def test_nowhere_to_itself(self):
        self.check((0, 0, 0), (0, 0, 0))

    def test_small_points(self):
        for points in points_by_sums().values():
            for one, other in itertools.product(points[::2], points):
                self.check(one, other)

    def test_signs_and_places(self):
        for x, y, z in POINTS:
            for signs in itertools.product((1, -1), repeat=3):
                for other in itertools.permutations((x * signs[0], y * signs[1], z * signs[2])):
                    self.check((x, y, z), other)

    def test_other_numbers(self):
        for one, other in (
            ((3, 0, 0), (2, 2, 1)),
            ((5, 0, 0), (0, 3, -4)),
            ((7, 0, 0), (-6, 2, 3)),
            ((15, 0, 0), (2, -10, 11)),
            ((1, 7, 4), (-5, 4, 5)),
            ((1, 1, 4), (3, 3, 0)),
            ((0, 0, -9), (8, 4, 1)),
        ):
            self.check(one, other)
            self.check(other, one)
            self.check(times(10 ** 59, one), times(10 ** 59, other))
            self.check(times(-LARGE, one), times(LARGE, other))

    def test_points_of_many_figures(self):
        for turn in LARGE_TURNS[:5] + SMALL_TURNS[::9]:
            for point in ((1, 2, 3), (0, -1, 0), (THIRTY, 5, 10 ** 29)):
                one = times(turn[1], point)
                other = tuple(dot(row, point) for row in turn[0])
                self.check(one, other)
                self.check(other, one)

    def test_three_hundred_figures(self):
        x, y, z = 10 ** 149 + 2, -(3 ** 300), 7 ** 170 * 2
        root = x * x + y * y
        one = (root, z, 0)
        other = (z, x * x - y * y, 2 * x * y)
        self.assertEqual(dot(one, one), dot(other, other))
        self.check(one, other)
        self.check(other, one)

    def test_what_was_told_is_handed_in_again(self):
        turn = after(LARGE_TURNS[5], LARGE_TURNS[6])
        for one, other in itertools.product(half_turns(turn) + turn[0], repeat=2):
            if dot(one, one) == dot(other, other):
                self.check(one, other)
        self.check(turn[0][0], turn[0][1])
        self.check(turn[0][2], (0, -turn[1], 0))

    def test_unlike_sums_refused(self):
        for one, other in (
            ((0, 0, 0), (1, 0, 0)),
            ((1, 0, 0), (1, 1, 0)),
            ((1, 2, 3), (2, 4, 6)),
            ((1, 2, 3), (-1, -2, -4)),
            ((3, 3, 0), (2, 2, 2)),
            ((LARGE, 0, 1), (LARGE, 0, 0)),
            ((LARGE, 1, 0), (LARGE, 1, 2)),
        ):
            self.refused(one, other)
            self.refused(other, one)
        sums = points_by_sums()
        for one, other in itertools.permutations(sums, 2):
            self.refused(sums[one][0], sums[other][-1])


class HalfTurnsTest(unittest.TestCase):
    def check(self, turn):
        found = half_turns(turn)
        self.assertIs(type(found), tuple)
        self.assertEqual(len(found), 2)
        for point in found:
            self.assertIs(type(point), tuple)
            self.assertEqual([type(number) for number in point], [int] * 3)
            self.assertNotEqual(point, (0, 0, 0), turn)
        first, second = [turn_of((0,) + point) for point in found]
        self.assertEqual(after_by_the_tables(first, second), turn, found)
        self.assertEqual(half_turns(turn), found)
        return found

    def test_the_turn_that_leaves_all(self):
        self.check(LEAVES_ALL)

    def test_half_turns(self):
        for point in POINTS:
            self.check(turn_of((0,) + point))

    def test_turns_about_one_axis(self):
        for point in AXES:
            for a in (1, 2, -5, THIRTY):
                self.check(turn_of((a,) + point))

    def test_the_turns_of_the_cube(self):
        for turn in cube_turns():
            self.check(turn)

    def test_small_turns(self):
        for turn in SMALL_TURNS:
            self.check(turn)

    def test_great_bottoms(self):
        for turn in LARGE_TURNS:
            self.check(turn)
            self.check(back(turn))

    def test_what_was_told_is_handed_in_again(self):
        turn = after(LARGE_TURNS[5], LARGE_TURNS[6])
        for step in range(2):
            first, second = self.check(turn)
            self.check(turn_of((0,) + first))
            turn = after(turn, LARGE_TURNS[0])


class OrderTest(unittest.TestCase):
    def check(self, turn):
        found = order(turn)
        # A turn with whole numbers over a bottom that has an order has one of 1, 2, 3, 4, 6.
        power = LEAVES_ALL
        for often in range(1, 7):
            power = after_by_the_tables(turn, power)
            if power == LEAVES_ALL:
                self.assertIs(type(found), int)
                self.assertEqual(found, often, turn)
                return found
        self.assertIsNone(found, turn)
        return found

    def test_the_turn_that_leaves_all(self):
        self.assertEqual(order(LEAVES_ALL), 1)

    def test_the_turns_of_the_cube(self):
        found = Counter(self.check(turn) for turn in cube_turns())
        self.assertEqual(found, {1: 1, 2: 9, 3: 8, 4: 6})

    def test_small_turns(self):
        found = Counter(self.check(turn) for turn in SMALL_TURNS)
        self.assertEqual(set(found), {1, 2, 3, 4, 6, None})

    def test_greater_bottoms_with_an_order(self):
        for often, quads in OF_ORDER.items():
            for quad in quads:
                self.assertEqual(self.check(turn_of(quad)), often, quad)
                self.assertEqual(order(back(turn_of(quad))), often, quad)

    def test_a_turn_between_another_and_its_back_turn(self):
        for other in LARGE_TURNS + SMALL_TURNS[::50]:
            for often, quads in OF_ORDER.items():
                turn = turn_of(quads[0])
                found = after(after(other, turn), back(other))
                self.assertEqual(order(found), often)
                self.assertEqual(self.check(found), often)
            self.assertEqual(order(after(other, back(other))), 1)

    def test_none(self):
        for quad in ((2, 1, 0, 0), (3, 1, 0, 0), (1, 2, 0, 0), (3, 2, 1, 0), (1, 1, 1, 0), (2, 1, 1, 1), (5, 1, 1, 0)):
            self.assertIsNone(order(turn_of(quad)))
            self.assertIsNone(self.check(turn_of(quad)))
        for quad in LARGE_QUADS:
            if quad[0] != 0:
                self.assertIsNone(self.check(turn_of(quad)))

    def test_near_an_order(self):
        # Three times one number's square, and its neighbours.
        for near in (-1, 0, 1):
            self.assertEqual(self.check(turn_of((THIRTY + near,) + times(THIRTY, (1, 1, 1)))), None if near else 3)
            self.assertEqual(self.check(turn_of((3 * THIRTY + near,) + times(THIRTY, (1, 1, 1)))), None if near else 6)
            self.assertEqual(self.check(turn_of((THIRTY + near, THIRTY, 0, 0))), None if near else 4)
            self.assertEqual(self.check(turn_of((near, THIRTY, 0, 0))), None if near else 2)
            self.assertEqual(self.check(turn_of((THIRTY, near, 0, 0))), None if near else 1)

    def test_what_was_told_is_handed_in_again(self):
        one = after(LARGE_TURNS[5], LARGE_TURNS[6])
        self.assertEqual(self.check(after(after(one, turn_of((3, 1, 1, 1))), back(one))), 6)
        self.assertIsNone(order(one))


if __name__ == "__main__":
    unittest.main()
