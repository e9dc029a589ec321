"""The interface: each name is there in its module, with its arguments as they stand."""

import importlib
import inspect
import unittest

from turngrid.desk import Desk

TOLD = {
    "wholes": {
        "is_whole": ["thing"],
        "divisor": ["numbers"],
        "odd_part": ["n"],
        "makings": ["one", "other"],
        "primes_of": ["n"],
    },
    "quads": {"product": ["one", "other"], "mirrored": ["quad"], "plain": ["quad"], "size": ["quad"]},
    "turns": {
        "turn_of": ["quad"],
        "quad_of": ["turn"],
        "is_turn": ["thing"],
        "after": ["one", "other"],
        "back": ["turn"],
        "moved": ["turn", "point"],
        "cube_turns": [],
    },
    "stones": {"stone_product": ["one", "other"], "weight": ["stone"], "divided": ["x", "y"], "common": ["x", "y"]},
    "fours": {"four_squares": ["n"]},
    "stairs": {"stair_of": ["points"], "share": ["stair"], "counts": ["stair", "point"]},
    "grids": {"joined": ["one", "other"], "met": ["one", "other"]},
    "dials": {"says": ["dial", "point"], "dial_stair": ["dial"], "turn_of_dial": ["dial"]},
    "shared": {
        "is_shared": ["turn", "point"],
        "shared_stair": ["turn"],
        "dial_of": ["turn"],
        "share_alike": ["one", "other"],
    },
    "parting": {"parted": ["turn", "sizes"]},
    "ways": {"bringing": ["one", "other"], "half_turns": ["turn"], "order": ["turn"]},
    "lists": {"shared_grids": ["m"], "how_many": ["m"]},
    "desk": {"Desk": []},
}


class InterfaceTest(unittest.TestCase):
    def test_names_and_arguments(self):
        for module, names in TOLD.items():
            held = importlib.import_module("turngrid." + module)
            for name, arguments in names.items():
                found = list(inspect.signature(getattr(held, name)).parameters)
                self.assertEqual(found, arguments, (module, name))

    def test_the_desk(self):
        self.assertIs(type(Desk), type)
        self.assertEqual(list(inspect.signature(Desk().say).parameters), ["row"])


if __name__ == "__main__":
    unittest.main()
