"""Points [4], [8] and [9]: turns."""

import itertools
import math
import unittest
from fractions import Fraction

from reference import determinant, dot, fractions_of, is_turn_by_the_sentence, is_turn_in_kind, led, times
from turngrid import errors
from turngrid.quads import plain, product, size
from turngrid.turns import after, back, cube_turns, is_turn, moved, quad_of, turn_of
from turngrid.wholes import odd_part

STAY = (((1, 0, 0), (0, 1, 0), (0, 0, 1)), 1)
THIRTY = 123456789012345678901234567891
LARGE = 10 ** 300 - 1
SMALL_QUADS = [quad for quad in itertools.product((-3, -1, 0, 1, 2), repeat=4) if any(quad)]
ODD_QUADS = [quad for quad in itertools.product((-3, -1, 1, 5), repeat=4)]
LARGE_QUADS = [
    (THIRTY, -THIRTY + 2, 10 ** 30, 7 ** 36),
    (0, THIRTY, 3 ** 70, -(10 ** 31)),
    (THIRTY, THIRTY + 2, -THIRTY - 4, THIRTY + 6),
    (LARGE, -LARGE, LARGE - 2, 1),
    (-LARGE, 0, 7 ** 350, -(3 ** 600)),
    (0, 0, 3 ** 600, LARGE),
    (10 ** 299, 10 ** 298, -(10 ** 297), 10 ** 296),
]
QUADS = SMALL_QUADS + ODD_QUADS + LARGE_QUADS
SOME_QUADS = SMALL_QUADS[::29] + ODD_QUADS[::23] + LARGE_QUADS
POINTS = [(0, 0, 0), (1, 0, 0), (0, -1, 0), (0, 0, 1), (1, 2, 3), (-6, 15, 10), (THIRTY, -7, 0), (LARGE, -LARGE, 5)]


def fractions_by_the_sentence(quad):
    a, b, c, d = quad
    whole = a * a + b * b + c * c + d * d
    table = (
        (a * a + b * b - c * c - d * d, 2 * b * c - 2 * a * d, 2 * b * d + 2 * a * c),
        (2 * b * c + 2 * a * d, a * a - b * b + c * c - d * d, 2 * c * d - 2 * a * b),
        (2 * b * d - 2 * a * c, 2 * c * d + 2 * a * b, a * a - b * b - c * c + d * d),
    )
    return [[Fraction(number, whole) for number in row] for row in table]


def spoilt(rows, place, spot, number):
    changed = [list(row) for row in rows]
    changed[place][spot] = number
    return tuple(tuple(row) for row in changed)


class TurnsTest(unittest.TestCase):
    def check_turn(self, turn):
        self.assertTrue(is_turn_in_kind(turn), turn)
        self.assertTrue(is_turn_by_the_sentence(turn), turn)


class TurnOfTest(TurnsTest):
    def test_reckoned_by_hand(self):
        told = {
            (1, 0, 0, 0): STAY,
            (0, 1, 0, 0): (((1, 0, 0), (0, -1, 0), (0, 0, -1)), 1),
            (1, 1, 0, 0): (((1, 0, 0), (0, 0, -1), (0, 1, 0)), 1),
            (1, 1, 1, 1): (((0, 0, 1), (1, 0, 0), (0, 1, 0)), 1),
            (2, 1, 0, 0): (((5, 0, 0), (0, 3, -4), (0, 4, 3)), 5),
            (2, 0, 0, 1): (((3, -4, 0), (4, 3, 0), (0, 0, 5)), 5),
            (2, 0, 1, 0): (((3, 0, 4), (0, 5, 0), (-4, 0, 3)), 5),
            (3, 1, 1, 1): (((2, -1, 2), (2, 2, -1), (-1, 2, 2)), 3),
            (0, 1, 1, 1): (((-1, 2, 2), (2, -1, 2), (2, 2, -1)), 3),
        }
        for quad, turn in told.items():
            self.assertEqual(turn_of(quad), turn, quad)

    def test_by_the_table_in_lowest_terms(self):
        for quad in QUADS:
            turn = turn_of(quad)
            self.check_turn(turn)
            self.assertEqual(fractions_of(turn), fractions_by_the_sentence(quad), quad)

    def test_the_bottom_is_the_odd_part_of_the_size_of_the_plain_quad(self):
        for quad in QUADS:
            self.assertEqual(turn_of(quad)[1], odd_part(size(plain(quad))), quad)

    def test_multiples_have_the_same_turn(self):
        for quad in SOME_QUADS:
            turn = turn_of(quad)
            for factor in (-1, 2, -2, 3, 4, -15, 77, 10 ** 30 + 1, -(2 ** 100)):
                self.assertEqual(turn_of(times(factor, quad)), turn, (quad, factor))

    def test_other_plain_quads_have_other_turns(self):
        plain_quads = {plain(quad) for quad in QUADS}
        self.assertEqual(len({turn_of(quad) for quad in plain_quads}), len(plain_quads))

    def test_four_noughts_are_refused(self):
        with self.assertRaises(errors.NoQuad):
            turn_of((0, 0, 0, 0))


class QuadOfTest(TurnsTest):
    def check(self, quad):
        found = quad_of(turn_of(quad))
        self.assertIs(type(found), tuple)
        self.assertEqual([type(number) for number in found], [int] * 4)
        self.assertEqual(found, plain(quad))

    def test_the_plain_quad_back_again(self):
        for quad in QUADS:
            self.check(quad)

    def test_noughts_ahead(self):
        for quad in ((0, 1, 0, 0), (0, 2, -3, 5), (0, -2, 3, 5), (0, 3, 0, -1), (0, THIRTY, 1, LARGE)):
            self.check(quad)
        for quad in ((0, 0, 1, 0), (0, 0, 2, -3), (0, 0, -2, 3), (0, 0, 1, 1), (0, 0, -LARGE, THIRTY)):
            self.check(quad)
        for quad in ((0, 0, 0, 1), (0, 0, 0, -7), (0, 0, 0, LARGE)):
            self.check(quad)

    def test_noughts_behind_and_between(self):
        for quad in ((1, 0, 0, 0), (-9, 0, 0, 0), (2, 3, 0, 0), (2, 0, 3, 0), (2, 0, 0, -3), (0, 2, 0, 3)):
            self.check(quad)

    def test_one_number_far_above_the_others(self):
        for places in itertools.permutations((LARGE, 1, -2, 0)):
            self.check(places)

    def test_of_turns_told_by_their_tables(self):
        self.assertEqual(quad_of(STAY), (1, 0, 0, 0))
        self.assertEqual(quad_of((((5, 0, 0), (0, 3, 4), (0, -4, 3)), 5)), (2, -1, 0, 0))
        self.assertEqual(quad_of((((-5, 0, 0), (0, 3, 4), (0, 4, -3)), 5)), (0, 0, 2, 1))


class IsTurnTest(TurnsTest):
    def check(self, thing):
        found = is_turn(thing)
        self.assertIs(type(found), bool)
        self.assertIs(found, is_turn_by_the_sentence(thing), thing)
        return found

    def test_turns(self):
        for quad in QUADS:
            self.assertIs(is_turn(turn_of(quad)), True, quad)

    def test_spoilt_in_one_number(self):
        for quad in SOME_QUADS:
            rows, bottom = turn_of(quad)
            for place, spot in itertools.product(range(3), repeat=2):
                for change in (1, -1, bottom):
                    self.check((spoilt(rows, place, spot, rows[place][spot] + change), bottom))
            for other in (bottom + 1, bottom + 2, 2 * bottom, bottom - 1, bottom * bottom + 1):
                self.assertIs(self.check((rows, other)), False)

    def test_spoilt_in_a_sign(self):
        for quad in SOME_QUADS:
            rows, bottom = turn_of(quad)
            for place, spot in itertools.product(range(3), repeat=2):
                thing = (spoilt(rows, place, spot, -rows[place][spot]), bottom)
                self.assertIs(self.check(thing), rows[place][spot] == 0)
            for place in range(3):
                thing = (tuple(times(-1, row) if row == rows[place] else row for row in rows), bottom)
                self.assertIs(self.check(thing), False)
            self.assertIs(self.check((tuple(times(-1, row) for row in rows), bottom)), False)
            self.assertIs(self.check(((times(-1, rows[0]), times(-1, rows[1]), rows[2]), bottom)), True)

    def test_rows_exchanged(self):
        for quad in SOME_QUADS:
            rows, bottom = turn_of(quad)
            self.assertIs(self.check(((rows[1], rows[0], rows[2]), bottom)), False)
            self.assertIs(self.check(((rows[0], rows[2], rows[1]), bottom)), False)
            self.assertIs(self.check(((rows[2], rows[1], rows[0]), bottom)), False)
            self.assertIs(self.check(((rows[1], rows[2], rows[0]), bottom)), True)
            self.assertIs(self.check(((rows[0], rows[1], rows[1]), bottom)), False)
            self.assertIs(self.check(((rows[0], rows[0], rows[2]), bottom)), False)
            self.assertIs(self.check(((rows[2], rows[1], rows[2]), bottom)), False)

    def test_columns_made_rows(self):
        for quad in SOME_QUADS:
            rows, bottom = turn_of(quad)
            self.assertIs(self.check((tuple(zip(*rows)), bottom)), True)

    def test_not_in_lowest_terms(self):
        for quad in SOME_QUADS:
            rows, bottom = turn_of(quad)
            for factor in (2, 3, 5, THIRTY):
                self.assertIs(self.check((tuple(times(factor, row) for row in rows), factor * bottom)), False)

    def test_a_bottom_of_nought_or_below(self):
        noughts = ((0, 0, 0),) * 3
        for bottom in (0, 1, -1, 3):
            self.assertIs(self.check((noughts, bottom)), False)
        for quad in SOME_QUADS:
            rows, bottom = turn_of(quad)
            self.assertIs(self.check((rows, 0)), False)
            self.assertIs(self.check((rows, -bottom)), False)
            self.assertIs(self.check((tuple(times(-1, row) for row in rows), -bottom)), False)

    def test_right_angles_alone_are_too_little(self):
        self.assertIs(self.check((((1, 1, 0), (1, -1, 0), (0, 0, -2)), 1)), False)
        self.assertIs(self.check((((4, 0, 0), (0, 1, 0), (0, 0, 2)), 2)), False)
        self.assertIs(self.check((((1, 0, 0), (0, 2, 0), (0, 0, 4)), 2)), False)

    def test_lengths_alone_are_too_little(self):
        self.assertIs(self.check((((5, 0, 0), (3, 4, 0), (0, 0, 5)), 5)), False)
        self.assertIs(self.check((((5, 0, 0), (0, 5, 0), (3, 0, 4)), 5)), False)
        self.assertIs(self.check((((5, 0, 0), (0, 3, 4), (0, 0, 5)), 5)), False)

    def test_all_tables_of_small_numbers(self):
        rows = list(itertools.product((-1, 0, 1), repeat=3))
        for bottom, answer in ((-1, 0), (0, 0), (1, 24), (2, 0)):
            found = [table for table in itertools.product(rows, repeat=3) if is_turn((table, bottom))]
            self.assertEqual(len(found), answer)

    def test_all_turns_with_bottom_three(self):
        rows = [row for row in itertools.product((-2, -1, 0, 1, 2, 3), repeat=3) if dot(row, row) == 9]
        found = [table for table in itertools.product(rows, repeat=3) if is_turn((table, 3))]
        self.assertEqual(len(found), 96)
        for table in found:
            self.check_turn((table, 3))


class AfterTest(TurnsTest):
    def check(self, one, other):
        found = after(one, other)
        self.check_turn(found)
        for axis in ((1, 0, 0), (0, 1, 0), (0, 0, 1)):
            answer = led(fractions_of(one), led(fractions_of(other), axis))
            self.assertEqual(led(fractions_of(found), axis), answer)
        self.assertEqual(found, turn_of(product(quad_of(one), quad_of(other))))
        self.assertEqual(after(one, other), found)

    def test_the_other_goes_first(self):
        quarter_about_x = turn_of((1, 1, 0, 0))
        quarter_about_z = turn_of((1, 0, 0, 1))
        self.assertEqual(after(quarter_about_x, quarter_about_z), (((0, -1, 0), (0, 0, -1), (1, 0, 0)), 1))
        self.assertEqual(after(quarter_about_z, quarter_about_x), (((0, 0, 1), (1, 0, 0), (0, 1, 0)), 1))

    def test_as_tables_and_by_quads(self):
        told = [turn_of(quad) for quad in SOME_QUADS]
        for one in told:
            for other in told[::2]:
                self.check(one, other)

    def test_bottoms_that_are_lost(self):
        fifth = turn_of((2, 1, 0, 0))
        self.assertEqual(after(fifth, fifth)[1], 25)
        self.assertEqual(after(fifth, back(fifth)), STAY)
        self.assertEqual(after(turn_of((2, 1, 0, 0)), turn_of((3, 1, 0, 0)))[1], 1)

    def test_one_that_leaves_all_points(self):
        for quad in SOME_QUADS:
            turn = turn_of(quad)
            self.assertEqual(after(turn, STAY), turn)
            self.assertEqual(after(STAY, turn), turn)

    def test_what_was_told_is_handed_in_again(self):
        turn = turn_of(LARGE_QUADS[3])
        quad = LARGE_QUADS[3]
        for step in range(2):
            turn = after(turn, turn)
            quad = product(quad, quad)
            self.check_turn(turn)
            self.assertEqual(turn, turn_of(quad))
            self.assertEqual(quad_of(turn), plain(quad))


class BackTest(TurnsTest):
    def test_reckoned_by_hand(self):
        self.assertEqual(back((((5, 0, 0), (0, 3, -4), (0, 4, 3)), 5)), (((5, 0, 0), (0, 3, 4), (0, -4, 3)), 5))
        self.assertEqual(back((((0, 0, 1), (1, 0, 0), (0, 1, 0)), 1)), (((0, 1, 0), (0, 0, 1), (1, 0, 0)), 1))
        self.assertEqual(back(STAY), STAY)

    def test_leads_back_what_the_turn_does(self):
        for quad in QUADS:
            turn = turn_of(quad)
            found = back(turn)
            self.check_turn(found)
            a, b, c, d = quad
            self.assertEqual(found, turn_of((a, -b, -c, -d)))
            self.assertEqual(back(found), turn)
            for point in POINTS:
                self.assertEqual(led(fractions_of(found), led(fractions_of(turn), point)), list(point))

    def test_the_turn_after_it_leaves_all_points(self):
        for quad in SOME_QUADS:
            turn = turn_of(quad)
            self.assertEqual(after(turn, back(turn)), STAY)
            self.assertEqual(after(back(turn), turn), STAY)


class MovedTest(TurnsTest):
    def check(self, turn, point):
        found = moved(turn, point)
        self.assertIs(type(found), tuple)
        self.assertEqual([type(number) for number in found], [int] * 4)
        self.assertEqual(math.gcd(*found), 1)
        self.assertGreaterEqual(found[3], 1)
        spot = [Fraction(number, found[3]) for number in found[:3]]
        self.assertEqual(spot, led(fractions_of(turn), point))

    def test_reckoned_by_hand(self):
        fifth = (((5, 0, 0), (0, 3, -4), (0, 4, 3)), 5)
        self.assertEqual(moved(fifth, (1, 2, 3)), (5, -6, 17, 5))
        self.assertEqual(moved(fifth, (7, 0, 0)), (7, 0, 0, 1))
        self.assertEqual(moved(fifth, (0, 2, 1)), (0, 2, 11, 5))
        self.assertEqual(moved(fifth, (0, 1, 2)), (0, -1, 2, 1))
        self.assertEqual(moved(turn_of((4, 1, 0, 0)), (0, 17, 34)), (0, -1, 38, 1))
        self.assertEqual(moved(after(turn_of((2, 1, 0, 0)), turn_of((3, 0, 2, 0))), (0, 0, 13)), (12, -4, 3, 1))

    def test_the_point_in_the_middle(self):
        for quad in SOME_QUADS:
            self.assertEqual(moved(turn_of(quad), (0, 0, 0)), (0, 0, 0, 1))

    def test_multiples_of_the_bottom(self):
        for quad in SOME_QUADS:
            rows, bottom = turn_of(quad)
            for point in POINTS:
                found = moved((rows, bottom), times(bottom, point))
                self.assertEqual(found, tuple(dot(row, point) for row in rows) + (1,))

    def test_in_lowest_terms(self):
        for quad in QUADS:
            turn = turn_of(quad)
            for point in POINTS:
                self.check(turn, point)

    def test_lowest_terms_between_one_and_the_bottom(self):
        turn = turn_of((4, 1, 1, 3))
        self.assertEqual(turn[1], 27)
        found = [moved(turn, (x, y, z))[3] for x, y, z in itertools.product(range(27), range(27), (0, 1))]
        self.assertEqual(sorted(set(found)), [1, 3, 9, 27])

    def test_by_a_turn_after_another_one(self):
        one = turn_of((3, 1, 1, 1))
        other = turn_of((2, 0, 0, 1))
        for point in POINTS:
            x, y, z, w = moved(other, point)
            answer = [Fraction(number, w) for number in led(fractions_of(one), (x, y, z))]
            found = moved(after(one, other), point)
            self.assertEqual([Fraction(number, found[3]) for number in found[:3]], answer)


class CubeTurnsTest(TurnsTest):
    def test_twenty_four_turns_with_bottom_one(self):
        found = cube_turns()
        self.assertIs(type(found), list)
        self.assertEqual(len(found), 24)
        self.assertEqual(len(set(found)), 24)
        for turn in found:
            self.check_turn(turn)
            self.assertEqual(turn[1], 1)

    def test_sorted_by_their_rows(self):
        rows = [turn[0] for turn in cube_turns()]
        self.assertEqual(rows, sorted(rows))
        self.assertEqual(rows[0], ((-1, 0, 0), (0, -1, 0), (0, 0, 1)))
        self.assertEqual(rows[23], ((1, 0, 0), (0, 1, 0), (0, 0, 1)))

    def test_all_that_are_there(self):
        axes = [axis for axis in itertools.product((-1, 0, 1), repeat=3) if dot(axis, axis) == 1]
        tables = [rows for rows in itertools.product(axes, repeat=3) if determinant(rows) == 1]
        self.assertEqual(cube_turns(), [(rows, 1) for rows in sorted(tables)])

    def test_a_new_list_each_time(self):
        first = cube_turns()
        second = cube_turns()
        self.assertIsNot(first, second)
        kept = list(first)
        first.clear()
        self.assertEqual(second, kept)
        self.assertEqual(cube_turns(), kept)


if __name__ == "__main__":
    unittest.main()
