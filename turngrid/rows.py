"""Rows: tuples of whole numbers, reckoned with number by number."""


def row_times(one, other):
    return sum([one[place] * other[place] for place in range(len(one))])


def row_mix(one, times, other, times_too):
    return tuple([times * one[place] + times_too * other[place] for place in range(len(one))])


def row_less(row, taken, times):
    return row_mix(row, 1, taken, -times)


def row_over(row, n):
    return tuple([number // n for number in row])
