"""Points [2] and [3]: what is handed in is the same behind each call, and so is the answer when asked again."""

import copy
import unittest

from turngrid import dials, fours, grids, lists, parting, quads, shared, stairs, stones, turns, ways, wholes
from turngrid.desk import Desk

QUAD = (3, -1, 4, 10 ** 30 + 1)
TURN = (((2, -1, 2), (2, 2, -1), (-1, 2, 2)), 3)
OTHER_TURN = (((5, 0, 0), (0, 3, -4), (0, 4, 3)), 5)
LEAVES_ALL = (((1, 0, 0), (0, 1, 0), (0, 0, 1)), 1)
POINT = (4, 5, 11)
STAIR = [(2, 1, 3), (0, 3, 2), (0, 0, 4)]
OTHER_STAIR = [(3, 1, 1), (0, 2, 1), (0, 0, 2)]
DIAL = ((-1, 5, 22), 15)
POINTS = [(1, 5, -5), (0, 0, 0), (0, 3, 7), (1, 5, -5), (0, 0, -4)]
STONES = ((3, -1, 5, 7), (4, 0, -2, 6))
CALLS = [
    (wholes.divisor, [12, -18, 0]),
    (wholes.makings, 12, -18),
    (wholes.primes_of, 360),
    (quads.product, QUAD, QUAD),
    (quads.mirrored, QUAD),
    (quads.plain, QUAD),
    (quads.size, QUAD),
    (turns.turn_of, QUAD),
    (turns.quad_of, TURN),
    (turns.is_turn, TURN),
    (turns.is_turn, (((2, 0, 0), (0, 2, 0), (0, 0, 2)), 2)),
    (turns.after, TURN, OTHER_TURN),
    (turns.back, TURN),
    (turns.moved, TURN, POINT),
    (turns.cube_turns,),
    (stones.stone_product,) + STONES,
    (stones.weight, STONES[0]),
    (stones.divided,) + STONES,
    (stones.common,) + STONES,
    (fours.four_squares, 9999),
    (stairs.stair_of, POINTS),
    (stairs.stair_of, STAIR),
    (stairs.share, STAIR),
    (stairs.counts, STAIR, POINT),
    (stairs.counts, STAIR, (1, 0, 0)),
    (grids.joined, STAIR, OTHER_STAIR),
    (grids.joined, STAIR, STAIR),
    (grids.met, STAIR, OTHER_STAIR),
    (grids.met, STAIR, STAIR),
    (dials.says, DIAL, POINT),
    (dials.dial_stair, DIAL),
    (dials.turn_of_dial, DIAL),
    (shared.is_shared, TURN, POINT),
    (shared.shared_stair, TURN),
    (shared.dial_of, TURN),
    (shared.share_alike, TURN, OTHER_TURN),
    (parting.parted, TURN, [3]),
    (parting.parted, OTHER_TURN, [1, 5, 1]),
    (parting.parted, LEAVES_ALL, []),
    (ways.bringing, POINT, (-5, 11, 4)),
    (ways.bringing, POINT, (-4, -5, -11)),
    (ways.half_turns, TURN),
    (ways.half_turns, LEAVES_ALL),
    (ways.order, TURN),
    (ways.order, OTHER_TURN),
    (lists.shared_grids, 1),
    (lists.shared_grids, 2),
    (lists.shared_grids, 45),
    (lists.how_many, 999999),
]
ROWS = ["turn a 2,1,0,0", "back b a", "after c a b", "quad c", "stair a", "move a 1,2,3", "drop c", "same a b"]


def spoil(answer):
    # The lists within are the asker's own as well.
    for part in answer:
        if isinstance(part, tuple) and isinstance(part[0], list):
            part[0].append(None)
    answer.append(None)


class HandedInTest(unittest.TestCase):
    def test_the_same_behind_each_call(self):
        for call in CALLS:
            handed = copy.deepcopy(call[1:])
            call[0](*handed)
            self.assertEqual(handed, call[1:], call[0].__name__)

    def test_the_same_answer_when_asked_again(self):
        first = [call[0](*copy.deepcopy(call[1:])) for call in CALLS]
        second = [call[0](*copy.deepcopy(call[1:])) for call in CALLS[::-1]]
        self.assertEqual(first, second[::-1])

    def test_a_list_that_was_told_is_the_askers_own(self):
        for call in CALLS:
            answer = call[0](*call[1:])
            if isinstance(answer, list):
                kept = copy.deepcopy(answer)
                spoil(answer)
                self.assertEqual(call[0](*call[1:]), kept, call[0].__name__)
                self.assertNotIn(None, call[1:])
        self.assertEqual(STAIR, [(2, 1, 3), (0, 3, 2), (0, 0, 4)])
        self.assertEqual(OTHER_STAIR, [(3, 1, 1), (0, 2, 1), (0, 0, 2)])
        self.assertEqual(len(POINTS), 5)

    def test_the_same_answers_of_each_desk(self):
        first = Desk()
        told = [first.say(row) for row in ROWS]
        second = Desk()
        self.assertEqual([second.say(row) for row in ROWS], told)
        self.assertEqual([first.say(row) for row in ROWS], told)


if __name__ == "__main__":
    unittest.main()
