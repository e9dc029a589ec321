"""The desk: turns kept by names, told and asked in rows of words."""

from turngrid.errors import NoName, NoRow
from turngrid.shared import is_shared, share_alike, shared_stair
from turngrid.turns import after, back, moved, quad_of, turn_of
from turngrid.ways import order
from turngrid.words import is_name, numbers_of, numbers_told, yes_or_no


def made_of_quad(told):
    return turn_of(told[1])


def made_of_two(told):
    return after(told[1], told[2])


def made_back(told):
    return back(told[1])


def told_quad(told):
    return numbers_told(quad_of(told[0]))


def told_bottom(told):
    return str(told[0][1])


def told_stair(told):
    return " ".join([numbers_told(point) for point in shared_stair(told[0])])


def told_spot(told):
    return numbers_told(moved(told[0], told[1]))


def told_shared(told):
    return yes_or_no(is_shared(told[0], told[1]))


def told_same(told):
    return yes_or_no(share_alike(told[0], told[1]))


def told_order(told):
    found = order(told[0])
    if found is None:
        return "never"
    return str(found)


# What stands behind the first word: a new name, a turn's name, a quad's or a point's numbers.
ROWS = {
    "turn": ("new", "quad"),
    "after": ("new", "turn", "turn"),
    "back": ("new", "turn"),
    "drop": ("turn",),
    "quad": ("turn",),
    "bottom": ("turn",),
    "stair": ("turn",),
    "move": ("turn", "point"),
    "shared": ("turn", "point"),
    "same": ("turn", "turn"),
    "order": ("turn",),
}
MAKERS = {"turn": made_of_quad, "after": made_of_two, "back": made_back}
TELLERS = {
    "quad": told_quad,
    "bottom": told_bottom,
    "stair": told_stair,
    "move": told_spot,
    "shared": told_shared,
    "same": told_same,
    "order": told_order,
}


class Desk:
    def __init__(self):
        self.turns = {}

    def say(self, row):
        words = words_of(row)
        first = words[0]
        told = self.meanings(words)
        if first in TELLERS:
            return TELLERS[first](told)
        if first in MAKERS:
            self.turns[words[1]] = MAKERS[first](told)
        else:
            # Only drop neither tells nor makes something.
            self.turns.pop(words[1])
        return "ok"

    def meanings(self, words):
        kinds = ROWS[words[0]]
        return [self.meaning(kinds[place], words[place + 1]) for place in range(len(kinds))]

    def meaning(self, kind, word):
        if kind == "quad":
            return numbers_of(word, 4)
        if kind == "point":
            return numbers_of(word, 3)
        if kind == "new":
            return new_name(word)
        if word not in self.turns:
            raise NoName("no turn stands by this name")
        return self.turns[word]


def words_of(row):
    if not isinstance(row, str):
        raise NoRow("what is no text is no row")
    words = row.split(" ")
    if words[0] not in ROWS or len(words) != len(ROWS[words[0]]) + 1:
        raise NoRow("there is no such row")
    return words


def new_name(word):
    if not is_name(word):
        raise NoName("a name has one to eight of the letters a to z")
    return word
