"""Places of the functions: the numbers at which they have a worth here."""

from oncenear.dots import compared, size_of
from oncenear.errors import NoPlace

MOST_SIZE = 800


def is_place(word, number):
    """Whether a number is a place of the function that the word names."""
    if word == "root":
        return number[0] >= 0
    if word == "log":
        return number[0] > 0
    if word == "exp":
        return is_between(number, (-125, 3), (125, 3))
    return number[0] == 0 or size_of(number) < MOST_SIZE


def is_between(number, least, most):
    """Whether a number is from least to most."""
    return compared(least, number) <= 0 and compared(number, most) <= 0


def need_place(word, number):
    """Refuse with NoPlace what is no place of the function."""
    if not is_place(word, number):
        raise NoPlace(word, number)
