"""Words of the desk's rows: which are names, which tell numbers; and what is answered in words."""

from turngrid.errors import NoNumbers

LETTERS = "abcdefghijklmnopqrstuvwxyz"
FIGURES = "0123456789"


def is_name(word):
    return 1 <= len(word) <= 8 and has_only(word, LETTERS)


def has_only(word, signs):
    return all([sign in signs for sign in word])


def numbers_of(word, often):
    parts = word.split(",")
    if len(parts) != often or not all([is_number(part) for part in parts]):
        raise NoNumbers("the numbers are not told as they should be")
    return tuple([int(part) for part in parts])


def is_number(word):
    if word == "0":
        return True
    figures = word[1:] if word.startswith("-") else word
    return 1 <= len(figures) <= 60 and has_only(figures, FIGURES) and not figures.startswith("0")


def numbers_told(numbers):
    return ",".join([str(number) for number in numbers])


def yes_or_no(truth):
    return "yes" if truth else "no"
