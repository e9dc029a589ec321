"""Point [15], the joined and the met stair of two: grids."""

import itertools
import math
import unittest

from reference import determinant, is_stair, is_stair_in_kind, made_of, times
from turngrid.grids import joined, met
from turngrid.stairs import counts, share, stair_of

WHOLE = [(1, 0, 0), (0, 1, 0), (0, 0, 1)]
SMALL_STAIRS = [
    WHOLE,
    [(1, 0, 1), (0, 1, 1), (0, 0, 2)],
    [(1, 1, 1), (0, 2, 0), (0, 0, 2)],
    [(2, 0, 0), (0, 2, 0), (0, 0, 2)],
    [(1, 0, 2), (0, 1, 1), (0, 0, 3)],
    [(1, 2, 0), (0, 3, 0), (0, 0, 1)],
    [(4, 0, 0), (0, 1, 0), (0, 0, 1)],
    [(1, 0, 0), (0, 3, 0), (0, 0, 2)],
    [(2, 1, 3), (0, 3, 2), (0, 0, 4)],
    [(1, 2, 3), (0, 4, 5), (0, 0, 6)],
    [(3, 1, 1), (0, 2, 1), (0, 0, 2)],
]
TEN = 1234567891
TWENTY = 98765432109876543211
LARGE = 10 ** 300 - 1
LARGE_STAIRS = [
    [(TEN, 17, 10 ** 9), (0, TEN + 9, 5), (0, 0, 2 * TEN)],
    [(6 * TEN, 5 * TEN, 1), (0, 10 * TEN, 4), (0, 0, 15)],
    [(1, 10 ** 19, 3 ** 40), (0, TWENTY, 10 ** 18), (0, 0, TWENTY * 12)],
    [(TWENTY, 0, 0), (0, 1, 0), (0, 0, TWENTY)],
    [(2 ** 64, 2 ** 63, 2 ** 62), (0, 6 ** 26, 3), (0, 0, 10 ** 19)],
    [(1, 0, TWENTY * TEN - 1), (0, 1, 7), (0, 0, TWENTY * TEN)],
]
HUGE_STAIRS = [
    [(LARGE, 7, 10 ** 298), (0, 3 ** 620, 10 ** 290), (0, 0, 10 ** 299)],
    [(10 ** 299, 5, 3 ** 600), (0, 7 ** 350, 10 ** 100), (0, 0, LARGE)],
]
# Counts of points in a grid, to be asked for in another.
MANY_COUNTS = list(itertools.product((-6, -1, 0, 1, 2, 15, 12 * TEN), repeat=3))


def pairs():
    yield from itertools.product(SMALL_STAIRS, repeat=2)
    yield from itertools.product(LARGE_STAIRS, repeat=2)
    yield from itertools.product(SMALL_STAIRS[1::3], LARGE_STAIRS)
    yield from itertools.product(LARGE_STAIRS, SMALL_STAIRS[2::3])
    yield from itertools.product(HUGE_STAIRS, repeat=2)


def is_in(stair, point):
    return counts(stair, point) is not None


class GridsTest(unittest.TestCase):
    def asked(self, call, one, other):
        handed = (list(one), list(other))
        found = call(*handed)
        self.assertEqual(handed, (one, other))
        self.assertTrue(is_stair_in_kind(found), found)
        self.assertTrue(is_stair(found), found)
        return found

    def check_new_list(self, call):
        one = [(2, 1, 3), (0, 3, 2), (0, 0, 4)]
        for other in (one, WHOLE, [(2, 0, 0), (0, 2, 0), (0, 0, 2)]):
            first = call(one, other)
            kept = list(first)
            second = call(one, other)
            self.assertIsNot(first, one)
            self.assertIsNot(first, other)
            self.assertIsNot(first, second)
            first.clear()
            self.assertEqual(second, kept)
            self.assertEqual(call(one, other), kept)
        self.assertEqual(one, [(2, 1, 3), (0, 3, 2), (0, 0, 4)])


class JoinedTest(GridsTest):
    def test_reckoned_by_hand(self):
        even = [(2, 0, 0), (0, 2, 0), (0, 0, 2)]
        self.assertEqual(joined(even, [(3, 0, 0), (0, 3, 0), (0, 0, 3)]), WHOLE)
        self.assertEqual(joined(even, [(4, 0, 0), (0, 6, 0), (0, 0, 3)]), [(2, 0, 0), (0, 2, 0), (0, 0, 1)])
        self.assertEqual(joined([(1, 0, 1), (0, 1, 1), (0, 0, 2)], even), [(1, 0, 1), (0, 1, 1), (0, 0, 2)])
        self.assertEqual(joined([(1, 0, 0), (0, 4, 0), (0, 0, 6)], [(1, 2, 3), (0, 8, 0), (0, 0, 6)]),
                         [(1, 0, 0), (0, 2, 3), (0, 0, 6)])

    def test_all_points_of_both(self):
        for one, other in pairs():
            found = self.asked(joined, one, other)
            for point in one + other:
                self.assertTrue(is_in(found, point), (one, other, point))
            # Points of a grid span its share or a multiple of it: so this is the share of all that comes of the six.
            spans = [determinant(three) for three in itertools.combinations(one + other, 3)]
            self.assertEqual(share(found), math.gcd(*spans), (one, other))
            self.assertEqual(found, stair_of(one + other))

    def test_sums_of_points_of_both(self):
        for one, other in itertools.product(SMALL_STAIRS + LARGE_STAIRS, repeat=2):
            found = joined(one, other)
            for often, too in ((3, -1, 2), (0, 5, 1)), ((-7, 0, 4), (TEN, -2, 0)):
                summed = tuple(x + y for x, y in zip(made_of(one, often), made_of(other, too)))
                self.assertTrue(is_in(found, summed))

    def test_just_the_sums(self):
        box = list(itertools.product(range(-1, 3), repeat=3))
        for one, other in itertools.product(SMALL_STAIRS, repeat=2):
            found = joined(one, other)
            # So many times a whole point is in both grids, so the points of a small cube do for all.
            around = math.lcm(share(one), share(other))
            if around <= 4:
                reached = {
                    tuple((x + y) % around for x, y in zip(made_of(one, often), made_of(other, too)))
                    for often in itertools.product(range(around), repeat=3)
                    for too in itertools.product(range(around), repeat=3)
                }
                for point in box:
                    self.assertEqual(is_in(found, point), tuple(x % around for x in point) in reached)

    def test_the_other_way_round(self):
        for one, other in pairs():
            self.assertEqual(joined(one, other), joined(other, one))

    def test_of_a_stair_and_itself(self):
        for stair in SMALL_STAIRS + LARGE_STAIRS + HUGE_STAIRS:
            self.assertEqual(self.asked(joined, stair, stair), stair)
            self.assertEqual(joined(stair, WHOLE), WHOLE)
            self.assertEqual(joined(stair, [times(6, point) for point in stair]), stair)

    def test_a_new_list_each_time(self):
        self.check_new_list(joined)


class MetTest(GridsTest):
    def test_reckoned_by_hand(self):
        even = [(2, 0, 0), (0, 2, 0), (0, 0, 2)]
        self.assertEqual(met(even, [(3, 0, 0), (0, 3, 0), (0, 0, 3)]), [(6, 0, 0), (0, 6, 0), (0, 0, 6)])
        self.assertEqual(met(even, [(4, 0, 0), (0, 6, 0), (0, 0, 3)]), [(4, 0, 0), (0, 6, 0), (0, 0, 6)])
        self.assertEqual(met([(1, 0, 1), (0, 1, 1), (0, 0, 2)], even), even)
        self.assertEqual(met([(1, 0, 1), (0, 1, 1), (0, 0, 2)], [(1, 0, 2), (0, 1, 1), (0, 0, 3)]),
                         [(1, 0, 5), (0, 1, 1), (0, 0, 6)])
        self.assertEqual(met([(1, 1, 0), (0, 2, 0), (0, 0, 1)], [(1, 0, 1), (0, 1, 0), (0, 0, 2)]),
                         [(1, 1, 1), (0, 2, 0), (0, 0, 2)])

    def test_just_the_points_that_are_in_both(self):
        box = list(itertools.product(range(-3, 7), range(-2, 5), range(-6, 7)))
        for one, other in itertools.product(SMALL_STAIRS, repeat=2):
            found = self.asked(met, one, other)
            for point in box:
                self.assertEqual(is_in(found, point), is_in(one, point) and is_in(other, point), (one, other, point))

    def test_the_least_leads_of_points_in_both(self):
        for one, other in itertools.product(SMALL_STAIRS, repeat=2):
            found = met(one, other)
            around = range(share(one) * share(other) + 1)
            last = next(z for z in around[1:] if is_in(one, (0, 0, z)) and is_in(other, (0, 0, z)))
            self.assertEqual(found[2], (0, 0, last))

    def test_large_stairs(self):
        for one, other in pairs():
            found = self.asked(met, one, other)
            for point in found:
                self.assertTrue(is_in(one, point) and is_in(other, point), (one, other, point))
            self.assertEqual(share(found) * share(joined(one, other)), share(one) * share(other), (one, other))

    def test_points_of_the_one_in_the_other(self):
        hits = 0
        for one, other in itertools.product(LARGE_STAIRS, repeat=2):
            found = met(one, other)
            for often in MANY_COUNTS:
                point = made_of(one, often)
                self.assertEqual(is_in(found, point), is_in(other, point), (one, other, point))
                hits += is_in(found, point)
            for often in ((1, -2, 3), (0, TEN, 5)):
                self.assertTrue(is_in(found, times(share(one), made_of(other, often))))
        self.assertGreater(hits, 1000)

    def test_the_other_way_round(self):
        for one, other in pairs():
            self.assertEqual(met(one, other), met(other, one))

    def test_of_a_stair_and_itself(self):
        for stair in SMALL_STAIRS + LARGE_STAIRS + HUGE_STAIRS:
            self.assertEqual(self.asked(met, stair, stair), stair)
            self.assertEqual(met(stair, WHOLE), stair)
            larger = [times(6, point) for point in stair]
            self.assertEqual(met(stair, larger), larger)

    def test_what_was_told_is_handed_in_again(self):
        one, other = HUGE_STAIRS
        both = met(one, other)
        self.assertEqual(met(both, one), both)
        self.assertEqual(joined(both, other), other)
        self.assertEqual(met(joined(one, other), both), both)
        third = met(both, LARGE_STAIRS[0])
        self.assertEqual(third, met(one, met(other, LARGE_STAIRS[0])))

    def test_a_new_list_each_time(self):
        self.check_new_list(met)


if __name__ == "__main__":
    unittest.main()
