"""Texts of numbers: m, p and e, or figures in tens."""

from oncenear.dots import is_number, lowered, need_number
from oncenear.errors import NoText
from oncenear.wholes import power_of

MOST_SIGNS = 300

# Python itself turns only some thousands of figures into a whole number and back, so they are taken in parts.
PART = 60
TEN_TO_PART = 10 ** 60


def number_text(number):
    """The text of a number: m, p and e."""
    need_number(number)
    m, e = number
    return whole_text(m) + "p" + whole_text(e)


def read_number(text):
    """The number whose text it is."""
    if not isinstance(text, str):
        raise NoText("a text is needed")
    before, dividing, behind = text.partition("p")
    number = (whole_of(before), whole_of(behind))
    if not is_number(number):
        raise NoText("a number's m, p and e are needed")
    return number


def decimal_text(number):
    """The text of a number in tens."""
    need_number(number)
    m, e = number
    sign = "-" if m < 0 else ""
    if e >= 0:
        return sign + figures_of(abs(m) << e)
    # One by 2 ** -e is 5 ** -e by 10 ** -e.
    figures = figures_of(abs(m) * power_of(5, -e)).zfill(1 - e)
    return sign + figures[:e] + "." + figures[e:]


def read_decimal(text):
    """The number that a text in tens stands for."""
    if not isinstance(text, str) or len(text) > MOST_SIGNS:
        raise NoText("a text of at most 300 signs is needed")
    before, dot, behind = text.removeprefix("-").partition(".")
    if not is_size(before) or (dot and not is_figures(behind)):
        raise NoText("figures, perhaps with a dot and figures behind it, are needed")
    whole = size_from(before + behind)
    fives = power_of(5, len(behind))
    if whole % fives != 0:
        raise NoText("that is no number of twos")
    if not text.startswith("-"):
        return lowered(whole // fives, -len(behind))
    if whole == 0:
        raise NoText("there is no - ahead of nought")
    return lowered(-whole // fives, -len(behind))


def whole_text(whole):
    """The figures of a whole number, - ahead of one below 0."""
    return "-" + figures_of(-whole) if whole < 0 else figures_of(whole)


def whole_of(text):
    """The whole number whose figures a text is, without needless noughts, - ahead of one below 0; None of others."""
    if not text.startswith("-"):
        return size_from(text) if is_size(text) else None
    size = text[1:]
    return -size_from(size) if is_size(size) and size != "0" else None


def is_figures(text):
    """Whether a text is one figure or more."""
    return text.isascii() and text.isdigit()


def is_size(text):
    """Whether a text is figures without needless noughts."""
    return is_figures(text) and (text == "0" or not text.startswith("0"))


def size_from(figures):
    """The whole number that figures stand for."""
    first = len(figures) % PART
    size = int("0" + figures[:first])
    for at in range(first, len(figures), PART):
        size = size * TEN_TO_PART + int(figures[at:at + PART])
    return size


def figures_of(size):
    """The figures of a whole number from 0 on."""
    parts = []
    while size >= TEN_TO_PART:
        size, part = divmod(size, TEN_TO_PART)
        parts.append(str(part).zfill(PART))
    parts.append(str(size))
    return "".join(parts[::-1])
