"""Points [14] and [15], counts: stairs."""

import itertools
import unittest

from reference import determinant, is_stair, is_stair_in_kind, made_of
from turngrid import errors
from turngrid.stairs import counts, share, stair_of

THIRTY = 123456789012345678901234567891
LARGE = 10 ** 300 - 1
SMALL_STAIRS = [
    [(1, 0, 0), (0, 1, 0), (0, 0, 1)],
    [(1, 0, 2), (0, 1, 1), (0, 0, 3)],
    [(1, 3, 0), (0, 5, 0), (0, 0, 1)],
    [(2, 1, 3), (0, 3, 2), (0, 0, 4)],
    [(4, 0, 0), (0, 3, 0), (0, 0, 2)],
    [(1, 2, 3), (0, 4, 5), (0, 0, 6)],
    [(6, 4, 6), (0, 5, 1), (0, 0, 7)],
]
LARGE_STAIRS = [
    [(1, 0, THIRTY - 1), (0, 1, 5), (0, 0, THIRTY)],
    [(THIRTY, 10 ** 29, 7), (0, 10 ** 30 + 57, 3 ** 40), (0, 0, 7 ** 40)],
    [(2, 3 ** 50, 5 ** 30), (0, 3 ** 60, 1), (0, 0, 5 ** 40)],
]
STAIRS = SMALL_STAIRS + LARGE_STAIRS
# Steps of adding and taking away that can be undone, so that of the points made the same grid comes.
MIXES = [(0, 1, 1), (1, 2, -2), (2, 0, 3), (1, 0, 7), (2, 1, -1), (0, 2, THIRTY), (1, 0, -5)]


def mixed(stair):
    points = list(stair)
    for place, other, times in MIXES:
        points[place] = tuple(x + times * y for x, y in zip(points[place], points[other]))
    return points


class StairOfTest(unittest.TestCase):
    def check(self, points, answer=None):
        handed = list(points)
        found = stair_of(handed)
        self.assertEqual(handed, list(points))
        self.assertTrue(is_stair_in_kind(found), found)
        self.assertTrue(is_stair(found), found)
        for point in points:
            self.assertIsNotNone(counts(found, point), point)
        if answer is not None:
            self.assertEqual(found, answer)
        return found

    def refused(self, points):
        handed = list(points)
        with self.assertRaises(errors.NoGrid):
            stair_of(handed)
        self.assertEqual(handed, list(points))

    def test_reckoned_by_hand(self):
        self.check([(2, 0, 0), (0, 2, 0), (0, 0, 2)], [(2, 0, 0), (0, 2, 0), (0, 0, 2)])
        self.check([(0, 1, 1), (1, 0, 1), (1, 1, 0)], [(1, 0, 1), (0, 1, 1), (0, 0, 2)])
        self.check([(-1, 1, 1), (1, -1, 1), (1, 1, -1)], [(1, 1, 1), (0, 2, 0), (0, 0, 2)])
        self.check([(3, 0, 0), (0, 3, 0), (0, 0, 3), (1, 1, 1)], [(1, 1, 1), (0, 3, 0), (0, 0, 3)])
        self.check([(6, 0, 0), (10, 0, 0), (15, 0, 0), (0, 1, 0), (0, 0, 1)], [(1, 0, 0), (0, 1, 0), (0, 0, 1)])
        self.check([(1, 5, -5), (0, 3, 7), (0, 0, -4)], [(1, 2, 0), (0, 3, 3), (0, 0, 4)])

    def test_a_stair_is_its_own(self):
        for stair in STAIRS:
            self.check(stair, stair)

    def test_points_of_which_the_same_grid_comes(self):
        for stair in STAIRS:
            points = mixed(stair)
            self.check(points, stair)
            self.check([tuple(-number for number in point) for point in points], stair)

    def test_in_another_order(self):
        for stair in STAIRS:
            points = mixed(stair) + [made_of(stair, (2, -3, 5)), made_of(stair, (0, 4, -1))]
            for order in itertools.permutations(points):
                self.check(order, stair)

    def test_points_twice_and_noughts(self):
        for stair in STAIRS:
            points = mixed(stair)
            self.check(points + points, stair)
            self.check([points[0], points[0], points[1], points[2], points[1]], stair)
            self.check([(0, 0, 0)] + points + [(0, 0, 0)], stair)
            self.check([points[0], (0, 0, 0), points[1], (0, 0, 0), points[2]], stair)

    def test_forty_points_and_more(self):
        for stair in STAIRS:
            points = [made_of(stair, (k, k * k - 7, 3 - k * 5)) for k in range(-18, 19)] + mixed(stair)
            self.assertEqual(len(points), 40)
            self.check(points, stair)
            self.check(points[::-1], stair)
            self.check(points + points, stair)

    def test_many_points_in_a_plane_and_one_outside(self):
        for stair in STAIRS:
            first, second, third = mixed(stair)
            flat = [tuple(k * x + (k * k + 1) * y for x, y in zip(first, second)) for k in range(37)] + [first, second]
            self.check(flat + [third], stair)
            self.check([third] + flat, stair)

    def test_numbers_of_thirty_figures(self):
        points = [(THIRTY, 10 ** 29, -7), (3 ** 62, -(7 ** 35), THIRTY), (10 ** 30, 11 ** 28, 13 ** 26)]
        found = self.check(points)
        self.assertEqual(share(found), abs(determinant(points)))

    def test_numbers_of_three_hundred_figures(self):
        points = [(LARGE, 10 ** 299, -7), (3 ** 620, -(7 ** 350), LARGE - 8), (10 ** 298, 11 ** 280, 13 ** 260)]
        found = self.check(points)
        self.assertEqual(share(found), abs(determinant(points)))
        again = self.check(found, found)
        self.check(again + points, found)
        forty = [(3 ** k * 10 ** 150, 7 ** (k + 200), LARGE - k * k) for k in range(40)]
        self.assertEqual(self.check(forty), stair_of(forty[::-1]))

    def test_the_share_of_three_points(self):
        # The points lie in the grid of the stair told: with the same share it is no larger than their own.
        for points in itertools.product([(2, 1, 0), (0, 3, -1), (4, -2, 5), (1, 1, 1), (-3, 0, 2)], repeat=3):
            whole = determinant(points)
            if whole == 0:
                self.refused(points)
            else:
                self.assertEqual(share(self.check(points)), abs(whole))

    def test_points_in_a_plane_refused(self):
        self.refused([(1, 0, 0), (0, 1, 0), (1, 1, 0)])
        self.refused([(1, 0, 0), (0, 0, 1), (5, 0, -7), (2, 0, 2)])
        self.refused([(0, 1, 0), (0, 0, 1), (0, 1, 1)])
        self.refused([(1, 2, 3), (4, 5, 6), (7, 8, 9)])
        self.refused([(1, 2, 3), (2, 4, 6), (-3, -6, -9)])
        self.refused([(1, 2, 3)] * 40)
        self.refused([(1, -1, 0), (0, 1, -1), (-1, 0, 1)])
        self.refused([(0, 0, 0)] * 3)
        self.refused([(THIRTY, 1, THIRTY + 1), (1, LARGE, LARGE + 1), (3 ** 60, 2, 3 ** 60 + 2)])
        self.refused([(k, k * k, k + k * k) for k in range(40)])

    def test_fewer_than_three_refused(self):
        self.refused([])
        self.refused([(0, 0, 0)])
        self.refused([(1, 2, 3)])
        self.refused([(1, 0, 0), (0, 1, 0)])
        self.refused([(LARGE, 1, 0), (0, 0, LARGE)])

    def test_a_new_list_each_time(self):
        points = [(2, 1, 3), (0, 3, 2), (0, 0, 4)]
        first = stair_of(points)
        second = stair_of(points)
        self.assertIsNot(first, points)
        self.assertIsNot(first, second)
        first.append((1, 1, 1))
        points.clear()
        self.assertEqual(second, [(2, 1, 3), (0, 3, 2), (0, 0, 4)])


class ShareTest(unittest.TestCase):
    def test_of_stairs(self):
        self.assertEqual(share([(1, 0, 0), (0, 1, 0), (0, 0, 1)]), 1)
        self.assertEqual(share([(2, 1, 3), (0, 3, 2), (0, 0, 4)]), 24)
        for stair in STAIRS:
            kept = list(stair)
            found = share(stair)
            self.assertIs(type(found), int)
            self.assertEqual(found, stair[0][0] * stair[1][1] * stair[2][2])
            self.assertEqual(stair, kept)

    def test_of_so_many_whole_points_one_is_in_the_grid(self):
        for stair in SMALL_STAIRS:
            edge = share(stair)
            if edge <= 24:
                box = itertools.product(range(edge), repeat=3)
                inside = [point for point in box if counts(stair, point) is not None]
                self.assertEqual(len(inside), edge * edge)


class CountsTest(unittest.TestCase):
    def test_of_points_in_the_grid(self):
        for stair in STAIRS:
            kept = list(stair)
            for often in itertools.product((-7, -1, 0, 1, 5, THIRTY), repeat=3):
                found = counts(stair, made_of(stair, often))
                self.assertIs(type(found), tuple)
                self.assertEqual([type(number) for number in found], [int] * 3)
                self.assertEqual(found, often)
            self.assertEqual(stair, kept)

    def test_of_the_stairs_points_and_the_middle(self):
        for stair in STAIRS:
            self.assertEqual(counts(stair, stair[0]), (1, 0, 0))
            self.assertEqual(counts(stair, stair[1]), (0, 1, 0))
            self.assertEqual(counts(stair, stair[2]), (0, 0, 1))
            self.assertEqual(counts(stair, (0, 0, 0)), (0, 0, 0))

    def test_none_of_points_that_are_not_in_the_grid(self):
        stair = [(2, 1, 3), (0, 3, 2), (0, 0, 4)]
        for point in ((1, 0, 0), (1, 1, 3), (2, 0, 3), (2, 2, 3), (2, 1, 0), (2, 1, 4), (0, 3, 0), (0, 1, 0)):
            self.assertIsNone(counts(stair, point), point)
        for point in ((-1, 0, 0), (-2, -1, -2), (0, 0, 2), (0, 0, -3), (THIRTY, 0, 0), (2, 1, 3 + 4 * LARGE + 1)):
            self.assertIsNone(counts(stair, point), point)

    def test_of_points_beside_those_in_the_grid(self):
        for stair in STAIRS:
            a, d, f = stair[0][0], stair[1][1], stair[2][2]
            x, y, z = made_of(stair, (3, -2, 9))
            self.assertEqual(counts(stair, (x, y, z + 1)) is None, f > 1)
            self.assertEqual(counts(stair, (x, y, z - f)), (3, -2, 8))
            if d > 1:
                self.assertIsNone(counts(stair, (x, y + 1, z)))
            if a > 1:
                self.assertIsNone(counts(stair, (x + 1, y, z)))

    def test_just_the_sums_are_in_the_grid(self):
        for stair in SMALL_STAIRS:
            sums = {made_of(stair, often) for often in itertools.product(range(-12, 13), repeat=3)}
            for point in itertools.product(range(-2, 4), repeat=3):
                self.assertEqual(counts(stair, point) is not None, point in sums, (stair, point))


if __name__ == "__main__":
    unittest.main()
