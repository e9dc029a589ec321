"""Points [5] and [20]: turns parted."""

import itertools
import math
import unittest

from reference import after_by_the_tables, is_turn_by_the_sentence, is_turn_in_kind
from turngrid import errors
from turngrid.parting import parted
from turngrid.quads import product
from turngrid.turns import after, back, cube_turns, turn_of

FIFTH = (((5, 0, 0), (0, 3, -4), (0, 4, 3)), 5)
LARGE = 10 ** 300 - 1
# A quad's size is the bottom, or it twice or four times.
QUADS = [quad for quad in itertools.product((-3, -1, 0, 1, 2), repeat=4) if quad > (0, 0, 0, 0)]
SMALL_TURNS = sorted({turn_of(quad) for quad in QUADS})
# Quads and the primes of their turns' bottoms.
PRODUCTS = {
    (2, 2, 1, 0): [3, 3],
    (4, 3, 1, 1): [3, 3, 3],
    (8, 4, 1, 0): [3, 3, 3, 3],
    (3, 4, 0, 0): [5, 5],
    (6, 3, 2, 0): [7, 7],
    (10, 2, 1, 0): [3, 5, 7],
    (14, 5, 2, 0): [3, 3, 5, 5],
    (15, 3, 1, 1): [59],
    (33, 8, 1, 1): [3, 5, 7, 11],
}
PIECES = [
    (10 ** 20 + 1, 3, 10 ** 19, 8),
    (7 ** 20, 2 ** 50, 1, 0),
    (4, 10 ** 21, -(3 ** 40), 6),
    (-(10 ** 10), 1, 10 ** 9 + 2, 4),
]


def ordered_products(n):
    # Each way to write n as a product of numbers above 1, their order counted.
    if n == 1:
        yield []
    for first in range(2, n + 1):
        if n % first == 0:
            for others in ordered_products(n // first):
                yield [first] + others


class PartedTest(unittest.TestCase):
    def check(self, turn, sizes):
        handed = list(sizes)
        found = parted(turn, handed)
        self.assertEqual(handed, sizes)
        self.assertIs(type(found), list)
        self.assertEqual(len(found), len(sizes) + 1)
        for part in found:
            self.assertTrue(is_turn_in_kind(part), part)
            self.assertTrue(is_turn_by_the_sentence(part), part)
        self.assertEqual([part[1] for part in found], sizes + [1], turn)
        whole = found[0]
        for part in found[1:]:
            whole = after_by_the_tables(whole, part)
        self.assertEqual(whole, turn, (turn, sizes))
        return found

    def refused(self, turn, sizes):
        handed = list(sizes)
        with self.assertRaises(errors.NoParts, msg=(turn, sizes)):
            parted(turn, handed)
        self.assertEqual(handed, sizes)

    def test_the_numbers_that_are_meant(self):
        for quad, primes in PRODUCTS.items():
            self.assertEqual(turn_of(quad)[1], math.prod(primes), quad)

    def test_by_no_size(self):
        for turn in cube_turns():
            self.assertEqual(self.check(turn, []), [turn])

    def test_by_one_size(self):
        for turn in SMALL_TURNS:
            self.check(turn, [turn[1]])

    def test_turns_of_the_cube_by_ones(self):
        for turn in cube_turns():
            self.check(turn, [1])
            self.check(turn, [1, 1, 1])
            self.check(turn, [1] * 40)

    def test_ones_among_the_sizes(self):
        for turn in SMALL_TURNS[::11]:
            self.check(turn, [1, turn[1]])
            self.check(turn, [turn[1], 1])
            self.check(turn, [1, 1, turn[1], 1])
        for quad, primes in PRODUCTS.items():
            self.check(turn_of(quad), [1] + primes)
            self.check(turn_of(quad), primes + [1, 1])
            self.check(turn_of(quad), primes[:1] + [1] + primes[1:])

    def test_by_the_primes_in_each_order(self):
        for quad, primes in PRODUCTS.items():
            for sizes in sorted(set(itertools.permutations(primes))):
                self.check(turn_of(quad), list(sizes))

    def test_each_way_to_write_the_bottom(self):
        for turn in SMALL_TURNS[::3]:
            for sizes in ordered_products(turn[1]):
                self.check(turn, sizes)
        for quad in PRODUCTS:
            for cube in cube_turns()[::5]:
                turn = after(cube, turn_of(quad))
                for sizes in ordered_products(turn[1]):
                    self.check(turn, sizes)
                    self.check(back(turn), sizes)

    def test_quads_with_sizes_once_twice_and_four_times_the_bottom(self):
        for quad in ((2, 1, 1, 1), (3, 2, 1, 0), (5, 1, 1, 1), (7, 5, 3, 1), (1, -1, 3, 3), (3, 1, 0, 0)):
            turn = turn_of(quad)
            self.assertIn(sum(number * number for number in quad) // turn[1], (1, 2, 4))
            for sizes in ordered_products(turn[1]):
                self.check(turn, sizes)

    def test_bottoms_of_many_figures(self):
        quad = (1, 0, 0, 0)
        sizes = []
        for piece in PIECES:
            quad = product(quad, piece)
            sizes.append(turn_of(piece)[1])
        turn = turn_of(quad)
        self.assertEqual(turn[1], math.prod(sizes))
        self.assertGreater(turn[1], 10 ** 130)
        for told in itertools.permutations(sizes):
            self.check(turn, list(told))
        self.check(turn, [sizes[0] * sizes[2], 1, sizes[1] * sizes[3]])
        self.check(turn, [turn[1]])
        self.check(back(turn), sizes)
        self.refused(turn, sizes[1:])
        self.refused(turn, sizes[:2] + [sizes[2] + 2] + sizes[3:])

    def test_forty_sizes(self):
        primes = [3, 5, 7, 11, 13] * 8
        small = {3: (1, 1, 1, 0), 5: (2, 1, 0, 0), 7: (2, 1, 1, 1), 11: (3, 1, 1, 0), 13: (3, 2, 0, 0)}
        quad = (1, 1, 0, 0)
        for prime in primes:
            quad = product(quad, small[prime])
        turn = turn_of(quad)
        self.assertEqual(turn[1], math.prod(primes))
        self.assertGreater(turn[1], 10 ** 30)
        self.check(turn, primes)
        self.check(turn, primes[::-1])
        self.check(turn, sorted(primes))

    def test_powers_of_a_prime(self):
        turn = FIFTH
        for often in range(2, 40):
            turn = after(turn, FIFTH)
        self.assertEqual(turn[1], 5 ** 39)
        self.check(turn, [5] * 39)
        self.check(turn, [25, 5, 125] * 6 + [1, 125])
        self.check(turn, [5 ** 20, 5 ** 19])
        self.refused(turn, [5] * 40)

    def test_three_hundred_figures(self):
        one = turn_of((LARGE, -LARGE + 2, 7 ** 350, 10 ** 299))
        other = turn_of((10 ** 299 + 1, 4, -(3 ** 600), LARGE))
        both = after(one, other)
        self.assertEqual(both[1], one[1] * other[1])
        self.check(one, [one[1]])
        self.check(both, [one[1], other[1]])
        self.check(both, [other[1], one[1]])

    def test_what_was_told_is_handed_in_again(self):
        turn = turn_of((33, 8, 1, 1))
        for sizes in ([1155], [105, 11], [3, 385], [15, 77]):
            for part in self.check(turn, sizes):
                for again in ordered_products(part[1]):
                    self.check(part, again)

    def test_of_the_first_part_and_of_the_whole_the_same_points_are_shared_with_one_size(self):
        for turn in SMALL_TURNS[::5]:
            first = parted(turn, [turn[1]])[0]
            self.assertEqual(after(back(first), turn)[1], 1)

    def test_the_same_again(self):
        turn = turn_of((33, 8, 1, 1))
        first = parted(turn, [7, 15, 11])
        kept = list(first)
        first.clear()
        self.assertEqual(parted(turn, [7, 15, 11]), kept)

    def test_other_products_refused(self):
        for turn in (FIFTH, back(FIFTH), turn_of((2, 2, 1, 0)), turn_of((33, 8, 1, 1))):
            bottom = turn[1]
            for sizes in ([], [1], [1, 1], [bottom + 2], [2 * bottom], [bottom, 2], [bottom, bottom], [2, bottom, 1]):
                self.refused(turn, sizes)
        self.refused(FIFTH, [3])
        self.refused(turn_of((2, 2, 1, 0)), [3])
        self.refused(turn_of((2, 2, 1, 0)), [3, 3, 3])
        self.refused(turn_of((10, 2, 1, 0)), [3, 5])
        self.refused(turn_of((10, 2, 1, 0)), [5, 5, 7])
        for turn in cube_turns():
            for sizes in ([2], [3], [1, 1, 5], [LARGE]):
                self.refused(turn, sizes)

    def test_sizes_below_one_refused(self):
        for sizes in ([0], [5, 0], [-5], [-5, -1], [-1, 5, -1], [-1, -5, 1]):
            self.refused(FIFTH, sizes)
        for sizes in ([-1], [-1, -1], [0], [-1] * 40):
            self.refused(cube_turns()[0], sizes)


if __name__ == "__main__":
    unittest.main()
