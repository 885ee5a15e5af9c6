"""Numbers as they are written in texts."""

from willdealt.days import is_day

FIGURES = "0123456789"


def read_number(word):
    """The number from 0 on that a word writes, None where it writes none."""
    if word == "" or not all([sign in FIGURES for sign in word]):
        return None
    if word[0] == "0" and word != "0":
        return None
    # Figure by figure, as int() refuses very long rows of them.
    number = 0
    for sign in word:
        number = number * 10 + FIGURES.index(sign)
    return number


def read_day(word):
    """The day that a word writes, None where it writes none."""
    number = read_number(word.removeprefix("-"))
    if number is None or word == "-0":
        return None
    day = -number if word.startswith("-") else number
    return day if is_day(day) else None
