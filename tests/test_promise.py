"""Points [3] and [5]: turns, dials, parts and shared points together, also with what was told and handed in again."""

import itertools
import math
import unittest

from reference import after_by_the_tables, is_shared_by_the_sentence, is_turn_by_the_sentence, times
from turngrid.dials import dial_stair, says, turn_of_dial
from turngrid.errors import NoDial
from turngrid.grids import joined, met
from turngrid.lists import shared_grids
from turngrid.parting import parted
from turngrid.quads import plain
from turngrid.shared import dial_of, is_shared, share_alike, shared_stair
from turngrid.stairs import counts, share
from turngrid.turns import after, back, is_turn, moved, quad_of, turn_of
from turngrid.ways import bringing, half_turns, order

QUADS = [quad for quad in itertools.product((-3, -2, 0, 1, 2), repeat=4) if any(quad)]
LARGE = 10 ** 300 - 1
# Turns with bottoms that are products of some primes, small and great ones.
TURNS = [turn_of(quad) for quad in ((10, 2, 1, 0), (33, 8, 1, 1), (14, 5, 2, 0), (0, 8, 5, 4), (7, 5, 3, 1))]
GREAT_TURNS = [
    turn_of((10 ** 20 + 1, 3, 10 ** 19, 8)),
    turn_of((0, 10 ** 21, -(3 ** 40), 6)),
    after(turn_of((LARGE, -LARGE, LARGE - 2, 1)), turn_of((-LARGE, 0, 7 ** 350, -(3 ** 600)))),
]


def small_primes(n):
    found = []
    for prime in (3, 5, 7, 11, 13, 17, 19, 23, 29, 31):
        while n % prime == 0:
            found.append(prime)
            n //= prime
    return found + [n]


class PromiseTest(unittest.TestCase):
    def test_each_turn_is_told_by_just_one_plain_quad(self):
        found = {}
        for quad in QUADS:
            found.setdefault(turn_of(quad), set()).add(plain(quad))
        for turn, quads in found.items():
            self.assertTrue(is_turn_by_the_sentence(turn))
            self.assertEqual(quads, {quad_of(turn)})

    def test_shared_just_where_a_dial_says_so(self):
        box = list(itertools.product(range(-2, 3), repeat=3))
        for turn in TURNS + GREAT_TURNS:
            dial = dial_of(turn)
            self.assertEqual(share(dial_stair(dial)), turn[1])
            for point in box + dial_stair(dial) + list(turn[0]) + list(zip(*turn[0])):
                self.assertEqual(says(dial, point), is_shared_by_the_sentence(turn, point))
                self.assertEqual(is_shared(turn, point), is_shared_by_the_sentence(turn, point))

    def test_one_point_in_as_many_as_the_bottom(self):
        for quad in ((0, 1, 1, 1), (2, 1, 0, 0), (7, 5, 3, 1), (3, 2, 1, 1)):
            turn = turn_of(quad)
            box = itertools.product(range(turn[1]), repeat=3)
            self.assertEqual(sum(is_shared(turn, point) for point in box), turn[1] ** 2)

    def test_a_dial_has_a_turn_just_where_m_is_odd_and_divides_w_times_w(self):
        for m in range(1, 12):
            listed = [stair for stair, turn in shared_grids(m)]
            for w in itertools.product(range(m), repeat=3):
                if math.gcd(m, *w) != 1:
                    continue
                if m % 2 == 1 and sum(number * number for number in w) % m == 0:
                    turn = turn_of_dial((w, m))
                    self.assertEqual(shared_stair(turn), dial_stair((w, m)))
                    self.assertIn(dial_stair((w, m)), listed)
                else:
                    self.assertNotIn(dial_stair((w, m)), listed)
                    with self.assertRaises(NoDial):
                        turn_of_dial((w, m))

    def test_each_way_to_write_the_bottom(self):
        for turn in TURNS + GREAT_TURNS:
            primes = small_primes(turn[1])
            for often in range(len(primes) + 1):
                sizes = primes[often:] + [math.prod(primes[:often])]
                parts = parted(turn, sizes)
                self.assertEqual([part[1] for part in parts], sizes + [1])
                whole = parts[0]
                for part in parts[1:]:
                    whole = after_by_the_tables(whole, part)
                self.assertEqual(whole, turn)

    def test_what_a_turn_shares_its_first_part_shares_too(self):
        for turn in TURNS + GREAT_TURNS:
            for size in small_primes(turn[1]):
                first = parted(turn, [size, turn[1] // size])[0]
                stair = shared_stair(first)
                self.assertEqual(share(stair), size)
                self.assertEqual(joined(stair, shared_stair(turn)), stair)
                self.assertEqual(met(stair, shared_stair(turn)), shared_stair(turn))

    def test_the_shared_grids_of_a_product_are_met_ones(self):
        nine = [stair for stair, turn in shared_grids(9)]
        five = [stair for stair, turn in shared_grids(5)]
        found = sorted(met(one, other) for one in nine for other in five)
        self.assertEqual([stair for stair, turn in shared_grids(45)], found)

    def test_what_was_told_is_handed_in_again_whatever_its_figures(self):
        turn = GREAT_TURNS[2]
        self.assertGreater(turn[1], 10 ** 1000)
        first, second = half_turns(turn)
        other = bringing(times(turn[1], (1, 2, 3)), moved(turn, (1, 2, 3))[:3])
        self.assertTrue(is_turn(other))
        both = after(turn, other)
        self.assertGreater(both[1], 10 ** 1500)
        self.assertEqual(after(both, back(other)), turn)
        self.assertEqual(order(other), 2)
        self.assertIs(share_alike(turn_of_dial(dial_of(turn)), turn), True)
        self.assertEqual(turn_of(quad_of(both)), both)
        parts = parted(both, [both[1]])
        self.assertIs(share_alike(parts[0], both), True)
        self.assertEqual(after(parts[0], parts[1]), both)
        stair = shared_stair(both)
        self.assertEqual(share(stair), both[1])
        self.assertEqual(dial_stair(dial_of(both)), stair)
        for point in stair:
            self.assertIs(is_shared(both, point), True)
        self.assertIsNotNone(counts(stair, times(both[1], first)))
        self.assertEqual(after(turn_of((0,) + first), turn_of((0,) + second)), turn)
        self.assertEqual(met(stair, shared_stair(turn)), met(shared_stair(turn), stair))


if __name__ == "__main__":
    unittest.main()
