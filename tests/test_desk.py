"""Point [24]: the desk."""

import unittest

from turngrid import errors
from turngrid.desk import Desk
from turngrid.errors import NoName, NoNumbers, NoQuad, NoRow
from turngrid.quads import mirrored, plain, product
from turngrid.shared import share_alike, shared_stair
from turngrid.turns import after, moved, turn_of

SIXTY = "123456789" * 6 + "987654"
TURNS = {
    "a": "2,1,0,0",
    "b": "1,1,1,1",
    "third": "0,1,1,1",
    "abcdefgh": "1,2,3,4",
    "z": "3,1,1,1",
    "leave": "-7,0,0,0",
    "great": SIXTY + ",-" + SIXTY[::-1] + ",0,5",
}
# A row of each kind that names a and b alone, and its answer.
ROWS = {
    "turn a 0,0,3,0": "ok",
    "turn new 1,2,3,4": "ok",
    "after new a b": "ok",
    "after a b a": "ok",
    "back new a": "ok",
    "back b b": "ok",
    "drop a": "ok",
    "quad a": "2,1,0,0",
    "bottom a": "5",
    "stair a": "1,0,0 0,1,3 0,0,5",
    "move a 1,2,3": "5,-6,17,5",
    "shared a 0,-1,2": "yes",
    "shared a 0,1,2": "no",
    "same a b": "no",
    "same a a": "yes",
    "order a": "never",
    "order b": "3",
}
NO_NAMES = [
    "", "abcdefghi", "a" * 500, "A", "aB", "Abc", "a1", "1", "0", "1,2,3,4", "a,b", "a-b", "-", "a_b", "_", "a.", "~",
    "`", "{", "@", "a'", "\t", "a\t", "\ta", "a\n", "\n", "a\r", "a\nb",
]
NO_NUMBER = [
    "", "-", "+", "+1", "+0", "-0", "00", "01", "-01", "007", "0" * 60, "--1", "1-", "-1-", "1.0", "1/2", "1e3",
    "0x1", "1x", "1_0", "a", "-a", "O", "1a", "\t1", "1\t", "1\n", "\n1", "-\n1", "1\r", "\t", "1;2", "(1",
    "1" * 61, "-" + "1" * 61, "1" * 5000, "0" + "1" * 59, "-0" + "1" * 59, "True", "None", "'1'",
]
NUMBERS = ["0", "1", "-1", "9", "10", "-10", "100", "90", "9" * 60, "-" + "9" * 60, "1" + "0" * 59, "-1" + "0" * 59]
NO_ROWS = [
    "", " ", "  ", "a", "turn", "after", "back", "drop", "quad", "bottom", "stair", "move", "shared", "same", "order",
    "turn a", "turn 1,2,3,4", "turn a 1,2,3,4 1,2,3,4", "turn a b 1,2,3,4", "turn a 1, 2,3,4", "turn a 1 2 3 4",
    "turn a  1,2,3,4", "turn a 1,2,3,4 ", " turn a 1,2,3,4", "turn  a 1,2,3,4",
    "after new a", "after a b", "after new a b a", "after new a b ", "after new a  b", "after  new a b",
    " after new a b",
    "back a", "back new a b", "back new  a", "back new a ", "back  new a", " back new a",
    "drop a b", "drop  a", "drop a ", " drop a", "quad a b", "quad  a", "quad a ", " quad a",
    "bottom a a", "bottom a ", " bottom a", "stair a b", "stair a ", " stair a", "order a b", "order a ", " order a",
    "move a", "move 1,2,3", "move a 1,2,3 1", "move a 1 2 3", "move a  1,2,3", "move a 1,2,3 ", "move  a 1,2,3",
    " move a 1,2,3", "shared a", "shared a 1,2,3 4", "shared a 1,2,3 ", " shared a 1,2,3", "shared a  1,2,3",
    "same a", "same a b a", "same a b ", "same a  b", "same  a b", " same a b",
    "Turn a 1,2,3,4", "TURN a 1,2,3,4", "turns a 1,2,3,4", "tur a 1,2,3,4", "QUAD a", "quads a", "Order a",
    "moved a 1,2,3",
    "turn\ta 1,2,3,4", "turn\ta\t1,2,3,4", "quad\ta", "quad\na", "\nquad a", "\tquad a", "quad\n a", "order\t a",
    "name a", "keep a", "help", "list", "0", "say quad a", "quad,a", "a quad", "a 1,2,3,4", "ok", "yes", "never",
    "new a",
    "plain a", "rows a", "parted a 5", "dial a", "half a", "size a", "cube", "turn_of a 1,2,3,4", "say a", "init a",
    "__init__ a", "turns a", "pop a", "new", "point a 1,2,3",
]
NO_TEXTS = [
    None, True, False, 0, 1, -5, 10 ** 300, 1.5, [], ["quad a"], ["quad", "a"], ("quad", "a"), {}, {"quad": "a"},
    {"quad a"}, b"quad a", bytearray(b"quad a"), object(), Desk, Desk(), errors.NoRow, len,
]


def spread(numbers):
    return ",".join(str(number) for number in numbers)


def desk_with_turns():
    desk = Desk()
    for name, numbers in TURNS.items():
        desk.say(f"turn {name} {numbers}")
    return desk


def standing(desk):
    found = {}
    for name in list(TURNS) + ["new", "c", "turn"]:
        try:
            found[name] = desk.say("quad " + name)
        except NoName:
            found[name] = None
    return found


class DeskTest(unittest.TestCase):
    def refused(self, desk, row, refusal):
        ahead = standing(desk)
        for step in range(2):
            with self.assertRaises(errors.SpaceError, msg=repr(row)) as caught:
                desk.say(row)
            self.assertIs(type(caught.exception), refusal, repr(row))
            self.assertEqual(standing(desk), ahead, repr(row))

    def answered(self, desk, row, answer):
        found = desk.say(row)
        self.assertIs(type(found), str, row)
        self.assertEqual(found, answer, row)


class AnswersTest(DeskTest):
    def test_each_row(self):
        for row, answer in ROWS.items():
            self.answered(desk_with_turns(), row, answer)

    def test_turn(self):
        desk = Desk()
        for numbers, quad in (
            ("2,1,0,0", "2,1,0,0"),
            ("-4,0,6,-10", "2,0,-3,5"),
            ("0,-5,0,0", "0,1,0,0"),
            ("0,0,0,-9", "0,0,0,1"),
            ("0,0,-2,2", "0,0,1,-1"),
        ):
            self.answered(desk, "turn a " + numbers, "ok")
            self.answered(desk, "quad a", quad)

    def test_turn_once_more(self):
        desk = desk_with_turns()
        self.answered(desk, "turn a 0,0,1,0", "ok")
        self.answered(desk, "quad a", "0,0,1,0")
        self.answered(desk, "turn a 0,0,1,0", "ok")
        self.answered(desk, "quad a", "0,0,1,0")
        self.answered(desk, "quad b", "1,1,1,1")

    def test_after(self):
        # (2, 1, 0, 0) times (1, 1, 1, 1) is (1, 3, 1, 3), the other way round (1, 3, 3, 1).
        desk = desk_with_turns()
        self.answered(desk, "after new a b", "ok")
        self.answered(desk, "quad new", "1,3,1,3")
        self.answered(desk, "after new b a", "ok")
        self.answered(desk, "quad new", "1,3,3,1")
        self.answered(desk, "after new a a", "ok")
        self.answered(desk, "quad new", "3,4,0,0")
        self.answered(desk, "quad a", "2,1,0,0")
        self.answered(desk, "quad b", "1,1,1,1")

    def test_after_by_a_name_that_is_read(self):
        for row, name, quad in (
            ("after a a b", "a", "1,3,1,3"),
            ("after b a b", "b", "1,3,1,3"),
            ("after a a a", "a", "3,4,0,0"),
            ("after a b a", "a", "1,3,3,1"),
        ):
            desk = desk_with_turns()
            ahead = standing(desk)
            self.answered(desk, row, "ok")
            self.assertEqual(standing(desk), {**ahead, name: quad})

    def test_back(self):
        desk = desk_with_turns()
        self.answered(desk, "back new a", "ok")
        self.answered(desk, "quad new", "2,-1,0,0")
        self.answered(desk, "quad a", "2,1,0,0")
        self.answered(desk, "back a a", "ok")
        self.answered(desk, "quad a", "2,-1,0,0")
        self.answered(desk, "back a a", "ok")
        self.answered(desk, "quad a", "2,1,0,0")
        self.answered(desk, "back new third", "ok")
        self.answered(desk, "quad new", "0,1,1,1")
        self.answered(desk, "back new abcdefgh", "ok")
        self.answered(desk, "after new new abcdefgh", "ok")
        self.answered(desk, "quad new", "1,0,0,0")

    def test_drop(self):
        desk = desk_with_turns()
        ahead = standing(desk)
        self.answered(desk, "drop a", "ok")
        self.assertEqual(standing(desk), {**ahead, "a": None})
        for row in ("drop a", "quad a", "back new a", "after new b a", "after new a b", "same a b", "same b a"):
            self.refused(desk, row, NoName)
        self.answered(desk, "turn a 0,0,1,0", "ok")
        self.answered(desk, "quad a", "0,0,1,0")
        self.answered(desk, "drop a", "ok")
        self.answered(desk, "back a b", "ok")
        self.answered(desk, "quad a", "1,-1,-1,-1")

    def test_what_was_made_of_a_turn_stays_when_that_is_dropped(self):
        desk = desk_with_turns()
        desk.say("after new a b")
        desk.say("back c a")
        desk.say("drop a")
        desk.say("turn b 1,0,0,0")
        self.answered(desk, "quad new", "1,3,1,3")
        self.answered(desk, "quad c", "2,-1,0,0")

    def test_bottom(self):
        desk = desk_with_turns()
        for name, bottom in (("a", "5"), ("b", "1"), ("third", "3"), ("abcdefgh", "15"), ("z", "3"), ("leave", "1")):
            self.answered(desk, "bottom " + name, bottom)

    def test_stair(self):
        desk = desk_with_turns()
        self.answered(desk, "stair b", "1,0,0 0,1,0 0,0,1")
        self.answered(desk, "stair third", "1,0,2 0,1,2 0,0,3")
        self.answered(desk, "turn a 2,0,0,1", "ok")
        self.answered(desk, "stair a", "1,3,0 0,5,0 0,0,1")

    def test_move(self):
        desk = desk_with_turns()
        for row, spot in (
            ("move a 0,0,0", "0,0,0,1"),
            ("move a 1,0,0", "1,0,0,1"),
            ("move a 0,1,2", "0,-1,2,1"),
            ("move a 0,-1,0", "0,-3,-4,5"),
            ("move a 10,0,5", "10,-4,3,1"),
            ("move b 1,2,3", "3,1,2,1"),
            ("move third 1,0,0", "-1,2,2,3"),
            ("move leave -1,2,-3", "-1,2,-3,1"),
        ):
            self.answered(desk, row, spot)

    def test_shared(self):
        desk = desk_with_turns()
        for row, answer in (
            ("shared a 0,0,0", "yes"),
            ("shared a 1,0,0", "yes"),
            ("shared a 0,0,5", "yes"),
            ("shared a 0,0,1", "no"),
            ("shared a 0,-1,2", "yes"),
            ("shared a 0,1,2", "no"),
            ("shared third 1,-1,0", "yes"),
            ("shared third 1,1,0", "no"),
            ("shared b 7,-8,9", "yes"),
        ):
            self.answered(desk, row, answer)

    def test_same(self):
        desk = desk_with_turns()
        desk.say("after new a b")
        desk.say("back c a")
        for row, answer in (
            ("same a a", "yes"),
            ("same a new", "yes"),
            ("same new a", "yes"),
            ("same a c", "no"),
            ("same b leave", "yes"),
            ("same a b", "no"),
            ("same third a", "no"),
        ):
            self.answered(desk, row, answer)

    def test_order(self):
        desk = desk_with_turns()
        desk.say("turn c 1,0,0,-1")
        for name, often in (("leave", "1"), ("third", "2"), ("b", "3"), ("c", "4"), ("z", "6"), ("a", "never")):
            self.answered(desk, "order " + name, often)

    def test_as_the_functions_answer(self):
        desk = desk_with_turns()
        turns = {name: turn_of(tuple(int(n) for n in numbers.split(","))) for name, numbers in TURNS.items()}
        for one, turn in turns.items():
            self.answered(desk, "bottom " + one, str(turn[1]))
            self.answered(desk, "stair " + one, " ".join(spread(point) for point in shared_stair(turn)))
            for point in ((1, 2, 3), (0, 0, -5), (-(10 ** 59), int(SIXTY), 7)):
                self.answered(desk, f"move {one} {spread(point)}", spread(moved(turn, point)))
            for other, turn_too in turns.items():
                self.answered(desk, f"same {one} {other}", "yes" if share_alike(turn, turn_too) else "no")
                self.answered(desk, f"after new {one} {other}", "ok")
                self.answered(desk, "bottom new", str(after(turn, turn_too)[1]))

    def test_numbers_of_as_many_figures_as_are_needed(self):
        desk = desk_with_turns()
        great = tuple(int(number) for number in TURNS["great"].split(","))
        quad = plain(great)
        self.answered(desk, "turn new " + TURNS["great"], "ok")
        for step in range(30):
            self.answered(desk, "after new great new", "ok")
            quad = plain(product(great, quad))
            self.answered(desk, "quad new", spread(quad))
        turn = turn_of(quad)
        self.assertGreater(turn[1], 10 ** 3500)
        self.answered(desk, "bottom new", str(turn[1]))
        self.answered(desk, "move new 1,-2,3", spread(moved(turn, (1, -2, 3))))
        self.answered(desk, "stair new", " ".join(spread(point) for point in shared_stair(turn)))
        self.answered(desk, "order new", "never")
        self.answered(desk, "shared new 1,2,3", "no")
        self.answered(desk, "same new new", "yes")
        self.answered(desk, "same new great", "no")
        self.answered(desk, "back new new", "ok")
        self.answered(desk, "quad new", spread(plain(mirrored(quad))))


class NamesTest(DeskTest):
    def test_names(self):
        desk = Desk()
        for name in ("a", "z", "m", "ab", "zz", "abcdefgh", "zyxwvuts", "qqqqqqqq"):
            self.answered(desk, f"turn {name} 2,1,0,0", "ok")
            self.answered(desk, f"quad {name}", "2,1,0,0")
            self.answered(desk, f"after {name} {name} {name}", "ok")
            self.answered(desk, f"back {name} {name}", "ok")
            self.answered(desk, f"quad {name}", "3,-4,0,0")
            self.answered(desk, f"drop {name}", "ok")

    def test_names_like_the_words_of_rows(self):
        desk = Desk()
        names = "turn after back drop quad bottom stair move shared same order ok new".split()
        for place, name in enumerate(names):
            self.answered(desk, f"turn {name} {place},1,0,0", "ok")
        for place, name in enumerate(names):
            self.answered(desk, f"quad {name}", f"{place},1,0,0")
        self.answered(desk, "after quad turn after", "ok")
        self.answered(desk, "quad quad", "1,-1,0,0")
        self.answered(desk, "drop drop", "ok")
        self.refused(desk, "drop drop", NoName)

    def test_what_is_no_name(self):
        desk = desk_with_turns()
        for word in NO_NAMES:
            for row in (
                "turn {} 1,2,3,4", "after {} a b", "after new {} b", "after new a {}", "back {} a", "back new {}",
                "drop {}", "quad {}", "bottom {}", "stair {}", "move {} 1,2,3", "shared {} 1,2,3", "same {} b",
                "same a {}", "order {}",
            ):
                self.refused(desk, row.replace("{}", word), NoName)

    def test_names_by_which_no_turn_stands(self):
        desk = desk_with_turns()
        for word in ("c", "aa", "abcdefg", "thir", "new", "turn", "quad", "hgfedcba"):
            for row in (
                "after new {} b", "after new a {}", "after {} {} b", "back new {}", "back {} {}", "drop {}", "quad {}",
                "bottom {}", "stair {}", "move {} 1,2,3", "shared {} 1,2,3", "same {} b", "same a {}", "order {}",
            ):
                self.refused(desk, row.replace("{}", word), NoName)

    def test_an_empty_desk(self):
        for row in (
            "after a b c", "back a b", "drop a", "quad a", "bottom a", "stair a", "move a 1,2,3", "shared a 1,2,3",
            "same a b", "order a",
        ):
            self.refused(Desk(), row, NoName)


class NumbersTest(DeskTest):
    def test_numbers(self):
        desk = Desk()
        for number in NUMBERS:
            for place in range(4):
                quad = ["1", "2", "0", "-4"]
                quad[place] = number
                self.answered(desk, "turn a " + ",".join(quad), "ok")
                self.answered(desk, "quad a", spread(plain(tuple(int(part) for part in quad))))
        desk = desk_with_turns()
        for number in NUMBERS:
            for point in ((number, "1", "0"), ("1", number, "5"), ("-2", "0", number)):
                x, y, z = [int(part) for part in point]
                self.answered(desk, "move a " + ",".join(point), spread(moved(turn_of((2, 1, 0, 0)), (x, y, z))))
                # The dial ((0, 3, 4), 5) says the points that this turn shares.
                shared = (3 * y + 4 * z) % 5 == 0
                self.answered(desk, "shared a " + ",".join(point), "yes" if shared else "no")

    def test_what_is_no_number(self):
        desk = desk_with_turns()
        for number in NO_NUMBER:
            for place in range(4):
                quad = ["1", "2", "3", "4"]
                quad[place] = number
                self.refused(desk, "turn new " + ",".join(quad), NoNumbers)
            for place in range(3):
                point = ["1", "2", "3"]
                point[place] = number
                self.refused(desk, "move a " + ",".join(point), NoNumbers)
                self.refused(desk, "shared a " + ",".join(point), NoNumbers)

    def test_too_few_and_too_many(self):
        desk = desk_with_turns()
        for numbers in ("", ",", ",,", ",,,", ",,,,", "1", "1,2", "1,2,3,4,5", "1,2,3,4,", ",1,2,3,4", "1," * 40):
            self.refused(desk, "turn new " + numbers, NoNumbers)
            self.refused(desk, "move a " + numbers, NoNumbers)
            self.refused(desk, "shared a " + numbers, NoNumbers)
        self.refused(desk, "turn new 1,2,3", NoNumbers)
        self.refused(desk, "turn new 1,2,3,", NoNumbers)
        self.refused(desk, "turn new 1,,3,4", NoNumbers)
        self.refused(desk, "move a 1,2,3,4", NoNumbers)
        self.refused(desk, "shared a 1,2,3,4", NoNumbers)
        self.refused(desk, "move a 1,2,", NoNumbers)
        self.refused(desk, "turn new a", NoNumbers)
        self.refused(desk, "move a b", NoNumbers)
        self.refused(desk, "turn new 1;2;3;4", NoNumbers)
        self.refused(desk, "turn new (1,2,3,4)", NoNumbers)

    def test_four_noughts(self):
        desk = desk_with_turns()
        self.refused(desk, "turn a 0,0,0,0", NoQuad)
        self.refused(desk, "turn new 0,0,0,0", NoQuad)
        self.refused(Desk(), "turn abcdefgh 0,0,0,0", NoQuad)


class RefusalsTest(DeskTest):
    def test_what_is_no_row(self):
        desk = desk_with_turns()
        for row in NO_ROWS:
            self.refused(desk, row, NoRow)

    def test_what_is_no_text(self):
        desk = desk_with_turns()
        for thing in NO_TEXTS:
            self.refused(desk, thing, NoRow)

    def test_a_word_without_signs(self):
        # Two blanks, or one at the end, make a word: where that makes as many words as a row has, it is such a row.
        desk = desk_with_turns()
        for row in (
            "drop ", "quad ", "bottom ", "stair ", "order ", "turn  1,2,3,4", "after  a b", "after new  b",
            "after new a ", "back  a", "back new ", "move  1,2,3", "shared  1,2,3", "same  b", "same a ", "same  ",
            "after   ", "turn  ",
        ):
            self.refused(desk, row, NoName)
        for row in ("turn new ", "turn a ", "move a ", "shared a "):
            self.refused(desk, row, NoNumbers)

    def test_which_comes_first(self):
        desk = desk_with_turns()
        for row, refusal in (
            ("turn A 1,2,3", NoName),
            ("turn A 0,0,0,0", NoName),
            ("turn abcdefghi 0,0,0,0", NoName),
            ("turn A 1,2,3 4", NoRow),
            ("turn a 0,0,0", NoNumbers),
            ("turn a 0,0,0,00", NoNumbers),
            ("turn a 0,0,0,-0", NoNumbers),
            ("turn new 0,0,0,0 ", NoRow),
            ("turn 1,2,3,4 a", NoName),
            ("move c 1,2", NoName),
            ("move C 1,2", NoName),
            ("move a 1,2", NoNumbers),
            ("move c 1,2 3", NoRow),
            ("move 1,2,3 a", NoName),
            ("shared c x", NoName),
            ("shared a x", NoNumbers),
            ("shared  x", NoName),
            ("after A c d", NoName),
            ("after A c d e", NoRow),
            ("back A", NoRow),
            ("back A c", NoName),
            ("quad A B", NoRow),
            ("Quad A", NoRow),
            ("order c a", NoRow),
            ("same c D", NoName),
        ):
            self.refused(desk, row, refusal)

    def test_behind_a_refused_row_rows_are_answered(self):
        desk = desk_with_turns()
        for wrong in ("quad c", "turn a 0,0,0,0", "after a a c", "back a c", "turn a 1,2,3", None, "drop c", "x"):
            with self.assertRaises(errors.SpaceError):
                desk.say(wrong)
            self.answered(desk, "quad a", "2,1,0,0")
        for row, answer in ROWS.items():
            desk = desk_with_turns()
            self.refused(desk, "turn a 0,0,0,0", NoQuad)
            self.answered(desk, row, answer)


class DesksTest(DeskTest):
    def test_two_desks_in_turn(self):
        one = Desk()
        other = Desk()
        one.say("turn a 2,1,0,0")
        self.refused(other, "quad a", NoName)
        other.say("turn a 1,1,1,1")
        self.answered(one, "quad a", "2,1,0,0")
        self.answered(other, "quad a", "1,1,1,1")
        one.say("after a a a")
        self.answered(other, "quad a", "1,1,1,1")
        other.say("drop a")
        self.answered(one, "quad a", "3,4,0,0")
        self.refused(Desk(), "quad a", NoName)

    def test_the_same_answers_to_the_same_rows(self):
        rows = [f"turn {name} {numbers}" for name, numbers in TURNS.items()] + list(ROWS)[7:] + list(ROWS)[:6]
        one = Desk()
        other = Desk()
        found = [(one.say(row), other.say(row)) for row in rows + rows]
        self.assertEqual([first for first, second in found], [second for first, second in found])
        self.assertEqual(standing(one), standing(other))


if __name__ == "__main__":
    unittest.main()
