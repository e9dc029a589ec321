"""Points [5], [16], [17] and [19]: shared points."""

import itertools
import math
import unittest

from reference import dot, fractions_of, is_shared_by_the_sentence, is_stair, is_stair_in_kind, led, made_of, times
from turngrid.dials import dial_stair, says, turn_of_dial
from turngrid.shared import dial_of, is_shared, share_alike, shared_stair
from turngrid.stairs import counts, share
from turngrid.turns import after, back, cube_turns, moved, turn_of

WHOLE = [(1, 0, 0), (0, 1, 0), (0, 0, 1)]
FIFTH = (((5, 0, 0), (0, 3, -4), (0, 4, 3)), 5)
THIRD = (((-1, 2, 2), (2, -1, 2), (2, 2, -1)), 3)
THIRTY = 123456789012345678901234567891
LARGE = 10 ** 300 - 1
SMALL_QUADS = [quad for quad in itertools.product((-3, -1, 0, 1, 2), repeat=4) if any(quad)]
# Of these turns' tables columns, two or all three, have a prime in common with the bottom, each another one, some
# of them less often than the bottom has it.
ODD_COLUMNS = [
    (0, 5, -4, 3), (0, 5, -7, -1), (11, 43, -49, 7), (109, -138, -144, 142), (169, 242, -52, -64),
    (173, 1139, -357, 651), (21, -53, -40, -60), (41, -60, 12, 55), (56, -52, 39, 33), (32, 43, -34, 14),
    (29, 54, -12, -18), (52, -39, 56, 33),
]
# Bottoms that are squares and products of primes: 9, 25, 27, 49, 81, 15, 45, 105, 225, 1155.
PRODUCTS = [
    (2, 2, 1, 0), (3, 4, 0, 0), (4, 2, 2, 1), (5, 1, 1, 0), (6, 3, 2, 0), (8, 4, 1, 0), (3, 2, 1, 1), (5, 4, 2, 0),
    (10, 2, 1, 0), (14, 5, 2, 0), (33, 8, 1, 1), (0, 8, 5, 4), (2, 5, 20, 29),
]
SIXTY = [(THIRTY, -THIRTY + 2, 10 ** 30, 7 ** 36), (0, THIRTY, 3 ** 62, -(10 ** 29)), (5 ** 43, 2, 6, -(10 ** 30))]
HUGE = [(LARGE, -LARGE, LARGE - 2, 1), (-LARGE, 0, 7 ** 350, -(3 ** 600)), (0, 0, 3 ** 600, LARGE)]
# Half of the quads tell the turns of the others as well.
SMALL_TURNS = [turn_of(quad) for quad in SMALL_QUADS if quad > (0, 0, 0, 0)]
EDGE_TURNS = [turn_of(quad) for quad in ODD_COLUMNS + PRODUCTS]
LARGE_TURNS = [turn_of(quad) for quad in SIXTY + HUGE]
TURNS = SMALL_TURNS + EDGE_TURNS + LARGE_TURNS
POINTS = [(0, 0, 0), (1, 0, 0), (0, -1, 0), (0, 0, 1), (1, 2, 3), (-6, 15, 10), (THIRTY, -7, 0), (LARGE, -LARGE, 5)]
BOX = list(itertools.product(range(-2, 4), repeat=3))


class IsSharedTest(unittest.TestCase):
    def check(self, turn, point):
        found = is_shared(turn, point)
        self.assertIs(type(found), bool)
        self.assertIs(found, is_shared_by_the_sentence(turn, point), (turn, point))
        return found

    def test_reckoned_by_hand(self):
        self.assertIs(is_shared(FIFTH, (0, -1, 2)), True)
        self.assertIs(is_shared(FIFTH, (0, 1, 2)), False)
        self.assertIs(is_shared(FIFTH, (1, 0, 0)), True)
        self.assertIs(is_shared(FIFTH, (0, 0, 5)), True)
        self.assertIs(is_shared(FIFTH, (0, 0, 1)), False)
        self.assertIs(is_shared(THIRD, (1, 1, 1)), True)
        self.assertIs(is_shared(THIRD, (1, -1, 0)), True)
        self.assertIs(is_shared(THIRD, (1, 1, 0)), False)

    def test_the_images_of_whole_points(self):
        for turn in TURNS:
            table = fractions_of(turn)
            for point in POINTS + [times(turn[1], (1, -2, 3))]:
                image = led(table, point)
                if all(number.denominator == 1 for number in image):
                    self.assertIs(is_shared(turn, tuple(int(number) for number in image)), True)
            whole = tuple(int(number) for number in led(table, times(turn[1], (1, 2, -4))))
            self.assertIs(is_shared(turn, whole), True)

    def test_where_the_back_turn_moves_to_a_whole_point(self):
        for turn in TURNS:
            for point in POINTS + [times(turn[1], (0, 1, -1)), times(turn[1], (1, 0, 0))]:
                found = self.check(turn, point)
                self.assertIs(found, moved(back(turn), point)[3] == 1)

    def test_small_turns_and_points(self):
        for turn in SMALL_TURNS[::5] + EDGE_TURNS:
            for point in BOX:
                self.check(turn, point)

    def test_of_the_turns_of_the_cube_all_points(self):
        for turn in cube_turns():
            for point in POINTS + BOX:
                self.assertIs(is_shared(turn, point), True)

    def test_one_point_in_as_many_as_the_bottom(self):
        for quad in ((0, 1, 1, 1), (2, 1, 0, 0), (2, 1, 1, 1), (2, 2, 1, 0), (3, 2, 1, 1), (3, 4, 0, 0)):
            turn = turn_of(quad)
            found = [point for point in itertools.product(range(turn[1]), repeat=3) if is_shared(turn, point)]
            self.assertEqual(len(found), turn[1] ** 2)


class SharedStairTest(unittest.TestCase):
    def check(self, turn):
        found = shared_stair(turn)
        self.assertTrue(is_stair_in_kind(found), found)
        self.assertTrue(is_stair(found), found)
        self.assertEqual(share(found), turn[1], turn)
        for point in found:
            self.assertTrue(is_shared_by_the_sentence(turn, point), (turn, point))
        return found

    def test_reckoned_by_hand(self):
        self.assertEqual(shared_stair(FIFTH), [(1, 0, 0), (0, 1, 3), (0, 0, 5)])
        self.assertEqual(shared_stair(THIRD), [(1, 0, 2), (0, 1, 2), (0, 0, 3)])
        self.assertEqual(shared_stair(turn_of((2, 0, 0, 1))), [(1, 3, 0), (0, 5, 0), (0, 0, 1)])
        self.assertEqual(shared_stair(turn_of((2, 0, 0, -1))), [(1, 2, 0), (0, 5, 0), (0, 0, 1)])

    def test_each_turn(self):
        for turn in TURNS:
            self.check(turn)

    def test_a_point_is_shared_just_where_it_has_counts(self):
        for turn in SMALL_TURNS[::5] + EDGE_TURNS:
            found = shared_stair(turn)
            for point in BOX:
                self.assertEqual(counts(found, point) is not None, is_shared(turn, point), (turn, point))
        for turn in EDGE_TURNS + LARGE_TURNS:
            found = shared_stair(turn)
            for often in ((1, 2, -3), (0, THIRTY, 5), (-1, 0, 1)):
                x, y, z = made_of(found, often)
                self.assertIs(is_shared(turn, (x, y, z)), True)
                for near in POINTS + [(x, y, z + 1), (x, y - 1, z), (x + 1, y, z), (x, y, -z)]:
                    self.assertEqual(counts(found, near) is not None, is_shared(turn, near), (turn, near))

    def test_the_turns_of_the_cube(self):
        for turn in cube_turns():
            self.assertEqual(self.check(turn), WHOLE)

    def test_what_was_told_is_handed_in_again(self):
        turn = LARGE_TURNS[3]
        for other in (turn, LARGE_TURNS[0], turn):
            turn = after(turn, other)
            self.check(turn)

    def test_a_new_list_each_time(self):
        for turn in (FIFTH, cube_turns()[0]):
            first = shared_stair(turn)
            kept = list(first)
            second = shared_stair(turn)
            self.assertIsNot(first, second)
            first.clear()
            self.assertEqual(second, kept)
            self.assertEqual(shared_stair(turn), kept)


class DialOfTest(unittest.TestCase):
    def check(self, turn):
        found = dial_of(turn)
        self.assertIs(type(found), tuple)
        w, m = found
        self.assertIs(type(w), tuple)
        self.assertEqual([type(number) for number in w + (m,)], [int] * 4)
        self.assertEqual(m, turn[1])
        self.assertEqual(len(w), 3)
        for number in w:
            self.assertTrue(0 <= number < m, (turn, found))
        self.assertEqual(math.gcd(*w, m), 1, (turn, found))
        self.assertEqual(dot(w, w) % m, 0, (turn, found))
        # A dial says one point in m, and the turn shares one in m: so it is enough that the dial's are shared.
        for point in dial_stair(found):
            self.assertTrue(is_shared_by_the_sentence(turn, point), (turn, found))
        self.assertEqual(dial_of(turn), found)
        return found

    def test_each_turn(self):
        for turn in TURNS:
            self.check(turn)

    def test_the_back_turns_and_their_neighbours(self):
        for turn in EDGE_TURNS:
            self.check(back(turn))
            for cube in cube_turns():
                self.check(after(turn, cube))
                self.check(after(cube, turn))

    def test_says_just_the_shared_points(self):
        for turn in SMALL_TURNS[::5] + EDGE_TURNS + LARGE_TURNS:
            dial = dial_of(turn)
            for point in BOX + POINTS + shared_stair(turn):
                self.assertEqual(says(dial, point), is_shared(turn, point), (turn, point))

    def test_the_turns_of_the_cube(self):
        for turn in cube_turns():
            self.assertEqual(self.check(turn), ((0, 0, 0), 1))

    def test_the_bottoms_that_are_meant(self):
        found = {turn[1] for turn in EDGE_TURNS}
        for bottom in (9, 25, 27, 49, 81, 15, 45, 105, 225, 1155, 1105, 4225, 71825, 93925, 469625):
            self.assertIn(bottom, found)
        for turn in LARGE_TURNS[:3]:
            self.assertGreaterEqual(len(str(turn[1])), 59)

    def test_what_was_told_is_handed_in_again(self):
        turn = LARGE_TURNS[3]
        for step in range(2):
            turn = after(turn, turn)
            self.check(turn)

    def test_the_turn_of_its_dial_shares_the_same(self):
        for turn in SMALL_TURNS[::3] + EDGE_TURNS + LARGE_TURNS:
            w, m = dial_of(turn)
            found = turn_of_dial((w, m))
            self.assertEqual(found[1], turn[1])
            self.assertEqual(shared_stair(found), shared_stair(turn))
            for k in (-1, 2, 4, 37 ** 5):
                if math.gcd(k, m) == 1:
                    self.assertEqual(shared_stair(turn_of_dial((times(k, w), m))), shared_stair(turn))


class ShareAlikeTest(unittest.TestCase):
    def check(self, one, other):
        found = share_alike(one, other)
        self.assertIs(type(found), bool)
        self.assertIs(found, shared_stair(one) == shared_stair(other), (one, other))
        self.assertIs(found, after(back(one), other)[1] == 1)
        self.assertIs(share_alike(other, one), found)
        return found

    def test_a_turn_and_itself(self):
        for turn in TURNS:
            self.assertIs(share_alike(turn, turn), True)

    def test_a_turn_behind_a_turn_of_the_cube(self):
        for turn in SMALL_TURNS[::23] + EDGE_TURNS[::3] + LARGE_TURNS:
            for cube in cube_turns():
                self.assertIs(self.check(turn, after(turn, cube)), True)

    def test_a_turn_of_the_cube_behind_a_turn(self):
        found = []
        for turn in SMALL_TURNS[::23] + EDGE_TURNS + LARGE_TURNS:
            found.extend(self.check(turn, after(cube, turn)) for cube in cube_turns())
        self.assertIn(True, found)
        self.assertIn(False, found)

    def test_the_same_bottom_and_other_shared_points(self):
        self.assertIs(self.check(FIFTH, back(FIFTH)), False)
        self.assertIs(self.check(FIFTH, turn_of((2, 0, 1, 0))), False)
        self.assertIs(self.check(turn_of((0, 1, 1, 1)), turn_of((0, 1, 1, -1))), False)
        for turn in LARGE_TURNS:
            self.assertIs(self.check(turn, back(turn)), turn == back(turn))

    def test_other_bottoms(self):
        self.assertIs(self.check(FIFTH, THIRD), False)
        self.assertIs(self.check(FIFTH, after(FIFTH, FIFTH)), False)
        self.assertIs(self.check(FIFTH, after(FIFTH, THIRD)), False)
        self.assertIs(self.check(FIFTH, cube_turns()[5]), False)
        for one, other in itertools.combinations(LARGE_TURNS, 2):
            self.assertIs(self.check(one, other), False)

    def test_turns_of_the_cube(self):
        for one, other in itertools.product(cube_turns(), repeat=2):
            self.assertIs(share_alike(one, other), True)

    def test_just_where_the_shared_stairs_are_the_same(self):
        found = [self.check(one, other) for one, other in itertools.product(SMALL_TURNS[::9], SMALL_TURNS[::7])]
        self.assertIn(True, found)
        self.assertIn(False, found)


if __name__ == "__main__":
    unittest.main()
