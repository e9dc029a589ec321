"""Lists: the shared grids of a number, and how many there are."""

from turngrid.dials import dial_stair, has_turn, turn_of_dial
from turngrid.wholes import primes_of


def shared_grids(m):
    rows = {}
    for w in rows_to_ask(m):
        if has_turn((w, m)):
            rows.setdefault(tuple(dial_stair((w, m))), w)
    return [(list(stair), turn_of_dial((rows[stair], m))) for stair in sorted(rows)]


def rows_to_ask(m):
    # A dial's w, multiplied by a number that has nothing in common with m, says the same points: one of these has a
    # first number that divides m. A turn needs a w times w that m divides: so the third is looked up by its square.
    roots = roots_by_squares(m)
    found = []
    for first in range(1, m + 1):
        if m % first == 0:
            for second in range(m):
                square = -(first * first + second * second) % m
                found.extend([(first, second, third) for third in roots.get(square, ())])
    return found


def roots_by_squares(m):
    roots = {}
    for number in range(m):
        square = number * number % m
        roots[square] = roots.get(square, ()) + (number,)
    return roots


def how_many(m):
    if m % 2 == 0:
        return 0
    made = 1
    ahead = 1
    for prime in primes_of(m):
        made = made * (prime if prime == ahead else prime + 1)
        ahead = prime
    return made
