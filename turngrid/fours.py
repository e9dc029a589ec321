"""Whole numbers as sums of four squares."""


def four_squares(n):
    # The greatest square first leaves little for the others, so few have to be tried.
    first = root_of(n)
    others = three_squares(n - first * first)
    while others is None:
        first = first - 1
        others = three_squares(n - first * first)
    return (first,) + others


def three_squares(n):
    for second in range(root_of(n) + 1):
        others = two_squares(n - second * second)
        if others is not None:
            return (second,) + others
    return None


def two_squares(n):
    for third in range(root_of(n) + 1):
        rest = n - third * third
        fourth = root_of(rest)
        if fourth * fourth == rest:
            return (third, fourth)
    return None


def root_of(n):
    # No step falls below the root, so the first one whose square is not above n is the root, rounded down.
    root = n
    while root * root > n:
        root = (root + n // root) // 2
    return root
