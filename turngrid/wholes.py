"""Whole numbers: the divisor, the odd part, the makings, the primes."""

from turngrid.rows import row_less


def is_whole(thing):
    # Python counts True and False as ints; the document doesn't.
    return isinstance(thing, int) and not isinstance(thing, bool)


def divisor(numbers):
    # 0 to begin with: every number divides 0, so the divisor of 0 and a number is that number.
    found = 0
    for number in numbers:
        found = divisor_of_two(found, number)
    return found


def divisor_of_two(one, other):
    while other != 0:
        rest = one % other
        one = other
        other = rest
    return abs(one)


def part_without(n, other):
    # The greatest number that divides n and has nothing in common with the other. Divided again and again, for a
    # prime may go into n more often than into the other.
    rest = n
    shared = divisor_of_two(n, other)
    while shared != 1:
        rest = rest // shared
        shared = divisor_of_two(rest, shared)
    return rest


def odd_part(n):
    # n & -n is the highest power of 2 that divides n, so one division does for all halvings.
    return n // (n & -n)


def makings(one, other):
    # Each row (d, a, b) keeps d = a * one + b * other, so the last one with d other than 0 is an answer.
    row = (one, 1, 0)
    below = (other, 0, 1)
    while below[0] != 0:
        rest = row_less(row, below, row[0] // below[0])
        row = below
        below = rest
    if row[0] < 0:
        return (-row[0], -row[1], -row[2])
    return row


def primes_of(n):
    primes = []
    rest = n
    candidate = 2
    # A candidate that divides the rest is prime: the smaller ones have been divided out.
    while candidate * candidate <= rest:
        while rest % candidate == 0:
            primes.append(candidate)
            rest = rest // candidate
        candidate = candidate + 1
    if rest > 1:
        primes.append(rest)
    return primes
