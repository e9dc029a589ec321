"""Points [5], [17] and [18]: dials."""

import itertools
import math
import unittest

from reference import dot, is_shared_by_the_sentence, is_stair, is_stair_in_kind, is_turn_by_the_sentence
from reference import is_turn_in_kind, made_of, times
from turngrid import errors
from turngrid.dials import dial_stair, says, turn_of_dial
from turngrid.stairs import counts, share

PRIME = 10 ** 59 + 19
OTHER_PRIME = 10 ** 30 + 57
LARGE = 10 ** 300 - 1
LARGE_DIALS = [
    ((3, 10 ** 58 + 7, -(7 ** 70)), PRIME),
    ((-PRIME + 1, PRIME + 1, 0), PRIME),
    ((PRIME, 0, 5), PRIME),
    ((OTHER_PRIME, 2, 10 ** 59), OTHER_PRIME ** 2),
    ((2 * OTHER_PRIME, 3 * OTHER_PRIME, -1), OTHER_PRIME ** 2),
    ((6 * OTHER_PRIME, 10 * OTHER_PRIME, 15), 30 * OTHER_PRIME),
    ((6 * OTHER_PRIME, 10, -15 * OTHER_PRIME), 30 * OTHER_PRIME),
    ((-(6 ** 40), 10 ** 40, 15 ** 40), 30 ** 40),
    ((10 ** 40, 15 ** 40, 6 ** 40), 30 ** 40),
    ((2 ** 190, 3, 2 ** 100), 2 ** 199),
    ((LARGE, -(3 ** 600), 10 ** 299), 7 ** 354),
    ((6 ** 380, -(10 ** 299), 15 ** 250), 30 ** 200),
]


def is_dial(w, m):
    return math.gcd(*w, m) == 1


def small_dials():
    for m in (1, 2, 3, 4, 5, 6, 8, 9, 12):
        for w in itertools.product(range(-(m // 3), m), repeat=3):
            if is_dial(w, m):
                yield w, m
    for m in (30, 36, 45, 49, 60):
        for w in itertools.product((-15, -6, 0, 1, 4, 9, 10, 12, 20, 35, 77), repeat=3):
            if is_dial(w, m):
                yield w, m


def dials_with_turns(m):
    for w in itertools.product(range(m), repeat=3):
        if is_dial(w, m) and dot(w, w) % m == 0:
            yield w, m


class SaysTest(unittest.TestCase):
    def check(self, dial, point):
        found = says(dial, point)
        self.assertIs(type(found), bool)
        w, m = dial
        self.assertIs(found, (w[0] * point[0] + w[1] * point[1] + w[2] * point[2]) % m == 0, (dial, point))

    def test_reckoned_by_hand(self):
        self.assertIs(says(((0, 3, 4), 5), (7, 1, 3)), True)
        self.assertIs(says(((0, 3, 4), 5), (7, 1, 2)), False)
        self.assertIs(says(((0, -2, -1), 5), (-1, -1, -3)), True)
        self.assertIs(says(((1, 1, 1), 6), (1, 2, 3)), True)
        self.assertIs(says(((1, 1, 1), 6), (1, 2, 0)), False)

    def test_by_the_sentence(self):
        points = list(itertools.product((-4, -1, 0, 1, 2, 9), repeat=3))
        for dial in itertools.islice(small_dials(), 0, None, 37):
            for point in points:
                self.check(dial, point)

    def test_with_bottom_one_all_points(self):
        for w in ((0, 0, 0), (1, 2, 3), (-5, 0, LARGE)):
            for point in ((0, 0, 0), (1, 0, 0), (-4, LARGE, 7)):
                self.assertIs(says((w, 1), point), True)

    def test_large_numbers(self):
        points = [(0, 0, 0), (1, 0, 0), (LARGE, -LARGE, 3 ** 600), (PRIME, PRIME, -PRIME), (OTHER_PRIME, 0, PRIME)]
        for dial in LARGE_DIALS:
            w, m = dial
            for point in points + [times(m, (1, -5, 7)), (-w[1], w[0], m), (w[1], w[0], 1), (0, -w[2], w[1] + m)]:
                self.check(dial, point)


class DialStairTest(unittest.TestCase):
    def check(self, dial, answer=None):
        found = dial_stair(dial)
        self.assertTrue(is_stair_in_kind(found), found)
        self.assertTrue(is_stair(found), (dial, found))
        # Of m whole points one is the dial's: so points of the dial whose stair has that share make them all.
        self.assertEqual(share(found), dial[1], dial)
        for point in found:
            self.assertEqual(dot(dial[0], point) % dial[1], 0, (dial, found))
        if answer is not None:
            self.assertEqual(found, answer, dial)
        return found

    def test_reckoned_by_hand(self):
        self.check(((0, 3, 4), 5), [(1, 0, 0), (0, 1, 3), (0, 0, 5)])
        self.check(((0, -2, -1), 5), [(1, 0, 0), (0, 1, 3), (0, 0, 5)])
        self.check(((1, 0, 0), 7), [(7, 0, 0), (0, 1, 0), (0, 0, 1)])
        self.check(((5, 1, 0), 7), [(1, 2, 0), (0, 7, 0), (0, 0, 1)])
        self.check(((1, 1, 1), 2), [(1, 0, 1), (0, 1, 1), (0, 0, 2)])
        self.check(((15, 10, 6), 30), [(2, 0, 0), (0, 3, 0), (0, 0, 5)])
        self.check(((1, 2, 4), 8), [(2, 1, 1), (0, 2, 1), (0, 0, 2)])

    def test_with_bottom_one(self):
        for w in ((0, 0, 0), (1, 2, 3), (-5, 0, 0), (0, LARGE, -LARGE)):
            self.check((w, 1), [(1, 0, 0), (0, 1, 0), (0, 0, 1)])

    def test_small_dials(self):
        for dial in small_dials():
            self.check(dial)

    def test_just_the_dials_points(self):
        box = list(itertools.product(range(-2, 4), repeat=3))
        for dial in itertools.islice(small_dials(), 0, None, 17):
            found = dial_stair(dial)
            for point in box:
                self.assertEqual(counts(found, point) is not None, says(dial, point), (dial, point))

    def test_one_point_in_m(self):
        for dial in (((1, 2, 3), 6), ((0, 2, 3), 6), ((3, 4, 5), 8), ((0, 3, 1), 9), ((2, 2, 5), 10)):
            said = [point for point in itertools.product(range(dial[1]), repeat=3) if says(dial, point)]
            self.assertEqual(len(said), dial[1] ** 2)

    def test_large_dials(self):
        for dial in LARGE_DIALS:
            self.assertTrue(is_dial(*dial))
            found = self.check(dial)
            for often in ((1, 2, -3), (0, PRIME, 5), (-1, 0, 1)):
                x, y, z = made_of(found, often)
                for near in ((x, y, z), (x, y, z + 1), (x, y - 1, z), (x + 1, y, z)):
                    self.assertEqual(counts(found, near) is not None, says(dial, near))
            w, m = dial
            for numbers in itertools.permutations(w):
                self.check((numbers, m))
                self.check((times(-1, numbers), m), dial_stair((numbers, m)))

    def test_w_times_a_number_that_has_nothing_in_common_with_m(self):
        for dial in itertools.islice(small_dials(), 0, None, 23):
            w, m = dial
            found = dial_stair(dial)
            for k in (-1, m + 1, 7 ** 40, -(11 ** 30)):
                if math.gcd(k, m) == 1:
                    self.check((times(k, w), m), found)
            self.check((tuple(number - 3 * m for number in w), m), found)

    def test_a_new_list_each_time(self):
        dial = ((1, 2, 4), 8)
        first = dial_stair(dial)
        second = dial_stair(dial)
        self.assertIsNot(first, second)
        first.clear()
        self.assertEqual(second, [(2, 1, 1), (0, 2, 1), (0, 0, 2)])
        self.assertEqual(dial_stair(dial), second)


class TurnOfDialTest(unittest.TestCase):
    def check(self, dial):
        found = turn_of_dial(dial)
        self.assertTrue(is_turn_in_kind(found), found)
        self.assertTrue(is_turn_by_the_sentence(found), (dial, found))
        self.assertEqual(found[1], dial[1])
        # Of the dial's points come all of its stair; a turn shares one point in as many as its bottom.
        for point in dial_stair(dial):
            self.assertTrue(is_shared_by_the_sentence(found, point), (dial, found))
        self.assertEqual(turn_of_dial(dial), found)
        return found

    def refused(self, dial):
        with self.assertRaises(errors.NoDial, msg=dial):
            turn_of_dial(dial)

    def test_just_the_dials_points(self):
        for dial in (((0, 3, 4), 5), ((2, 2, 1), 9), ((1, 1, 1), 3), ((3, 2, 1), 7), ((1, 5, 7), 15), ((0, 5, 12), 13)):
            found = self.check(dial)
            for point in itertools.product(range(dial[1]), repeat=3):
                self.assertEqual(is_shared_by_the_sentence(found, point), says(dial, point), (dial, point))

    def test_small_numbers_that_are_odd(self):
        for m in (1, 3, 5, 7, 9, 11, 13, 15):
            turns = 0
            for w in itertools.product(range(m), repeat=3):
                if is_dial(w, m) and dot(w, w) % m == 0:
                    self.check((w, m))
                    turns += 1
                else:
                    self.refused((w, m))
            self.assertGreater(turns, 0)

    def test_squares_and_products(self):
        for m in (21, 25, 27, 35, 45):
            told = list(dials_with_turns(m))
            self.assertGreater(len(told), 100)
            for dial in told[::len(told) // 60]:
                self.check(dial)

    def test_bottom_one(self):
        for w in ((0, 0, 0), (1, 0, 0), (1, 2, 3), (-4, 7, LARGE), (2, 2, 2)):
            self.assertEqual(self.check((w, 1))[1], 1)

    def test_w_below_nought_or_above_m(self):
        for m in (3, 5, 9, 15):
            for w, bottom in itertools.islice(dials_with_turns(m), 0, None, 5):
                self.check((times(-1, w), m))
                self.check((tuple(number - m for number in w), m))
                self.check((tuple(number + k * m for number, k in zip(w, (2, -5, LARGE))), m))

    def test_w_times_a_number_that_has_nothing_in_common_with_m(self):
        for m in (5, 9, 21, 25):
            for w, bottom in itertools.islice(dials_with_turns(m), 0, None, 29):
                for k in (2, 4, -8, 11, 13, 17 ** 20):
                    self.assertEqual(dial_stair((times(k, w), m)), dial_stair((w, m)))
                    self.check((times(k, w), m))

    def test_large_numbers(self):
        # w times itself is a multiple of itself and of all its divisors.
        for w in (
            (10 ** 20 + 38, 3, 10 ** 19),
            (-(10 ** 20), 7 ** 24, 4),
            (1, -(10 ** 20) - 2, 2 * 10 ** 19),
            (0, 2 * 3 ** 41, 5 ** 28),
            (3 * 10 ** 20 + 1, 3, 5),
        ):
            whole = dot(w, w)
            self.assertEqual(whole % 2, 1)
            for bottom in [whole] + [whole // p for p in (3, 5, 7, 9, 11, 13, 17, 19, 25) if whole % p == 0]:
                self.check((w, bottom))
                self.check((times(-2, w), bottom))
            self.refused((w, 2 * whole))
            self.refused((w, whole + 2))
            self.refused((times(7, w), 7 * whole))

    def test_squares_of_large_numbers(self):
        # Here w times itself is a square.
        for x, y in ((10 ** 10 + 1, 10 ** 9), (3 ** 21, 2 ** 33), (7 ** 20, 2)):
            w = (x * x - y * y, 2 * x * y, 0)
            root = x * x + y * y
            self.check((w, root * root))
            self.check((w, root))
            self.refused((w, root * root * root))

    def test_three_hundred_figures(self):
        w = (10 ** 149 + 2, -(3 ** 300), 7 ** 170 * 2)
        self.check((w, dot(w, w)))
        self.check((times(10 ** 140 + 1, w), dot(w, w)))

    def test_even_m_refused(self):
        for m in (2, 4, 6, 8, 10, 12):
            for w in itertools.product(range(m), repeat=3):
                self.refused((w, m))
        self.refused(((1, 1, 0), 2))
        self.refused(((1, 1, 2), 6))
        self.refused(((1, 2, 3), 14))
        self.refused(((10 ** 20 + 1, 1, 0), (10 ** 20 + 1) ** 2 + 1))
        self.refused(((1, 3, 0), 10 ** 40))

    def test_m_that_does_not_divide_w_times_w_refused(self):
        for dial in (((1, 0, 0), 3), ((1, 1, 0), 3), ((1, 2, 3), 5), ((1, 1, 1), 9), ((0, 3, 4), 125), ((2, 2, 1), 27)):
            self.refused(dial)
        for dial in LARGE_DIALS:
            self.refused(dial)

    def test_what_is_no_dial_refused(self):
        for m in (3, 5, 9, 15, 21, 25, 2, 4, PRIME):
            self.refused(((0, 0, 0), m))
            self.refused(((m, 0, 0), m))
            self.refused(((m, -m, 5 * m), m))
        self.refused(((3, 3, 3), 9))
        self.refused(((3, 6, -3), 9))
        self.refused(((6, 3, 6), 27))
        self.refused(((5, 5, 5), 15))
        self.refused(((0, 15, 20), 25))
        self.refused(((7, 14, 28), 21))
        self.refused((times(PRIME, (1, 2, 2)), 9 * PRIME))
        self.refused((times(OTHER_PRIME, (1, 1, 1)), 3 * OTHER_PRIME))


if __name__ == "__main__":
    unittest.main()
