"""The words that functions, methods and ways are asked for by."""

from oncenear.errors import NoWord

WAYS = ("near", "up", "down", "in", "out")
FUNCTIONS = ("root", "exp", "log", "sin", "cos", "arc")
METHODS = ("series", "steps", "halves")


def need_word(thing, words):
    """Refuse with NoWord what is none of the words."""
    if thing not in words:
        raise NoWord(thing)
