"""The refusals of the program, each a class of its own."""


class NoNumber(ValueError):
    """What was handed in is no number, or no whole number that is taken there."""


class NoForm(ValueError):
    """What was handed in is no form, or no form can be made of it."""


class NoStretch(ValueError):
    """What was handed in is no stretch, or none that is taken there."""


class NoText(ValueError):
    """What was handed in is no text of a number."""


class NoLine(ValueError):
    """What was handed in is no line of a desk."""


class NoPlace(ValueError):
    """The number is no place of the function that the word names."""

    def __init__(self, word, number):
        self.word = word
        self.number = number


class NoWord(LookupError):
    """What was handed in is none of the words that are known there."""

    def __init__(self, word):
        self.word = word


class TooGreat(ArithmeticError):
    """The rounded number is beyond the greatest one of its form."""

    def __init__(self, number):
        self.number = number


class TooMany(ArithmeticError):
    """There are more than can be told at once."""

    def __init__(self, many):
        self.many = many
