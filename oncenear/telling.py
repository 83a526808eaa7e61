"""Worths told in forms, rounded just once."""

from oncenear.dots import lowered, need_number, size_of
from oncenear.kept import Kept
from oncenear.places import is_place, need_place
from oncenear.rounding import is_below_most, need_below_most, need_form, rounded_twos, step_power
from oncenear.shares import twos_and_ratio, twos_in_power
from oncenear.stretches import Stretch
from oncenear.words import FUNCTIONS, METHODS, WAYS, need_word
from oncenear.worths import ends_of_worth, exact_at

# So many bits more than a form's step has are reckoned at first: seldom is a border nearer.
FIRST_MORE = 14


def told(form, word, number, *, way="near", by="series"):
    """The number of the form that the worth itself is rounded to, by the way."""
    return told_from(Kept(), form, word, number, way, by)


def shown(form, word, number, *, way="near", by="series"):
    """A stretch that holds the worth, all of whose numbers are rounded to the number that told tells."""
    return shown_from(Kept(), form, word, number, way, by)


def judge_shown(form, word, number, stretch, *, way="near"):
    """Whether a thing is a stretch that holds the worth and whose ends are rounded to one number."""
    need_told(form, word, number, way, "series")
    if not isinstance(stretch, Stretch):
        return False
    (low, low_power), (high, high_power) = stretch.low, stretch.high
    if rounded_twos(form, low, low_power, way) != rounded_twos(form, high, high_power, way):
        return False
    exact = exact_at(word, number)
    if exact is not None:
        return stretch.holds(exact)
    return holds_worth(stretch, word, number, Kept())


def table(form, word, *, way="near"):
    """The list of (number, told) of all numbers of the form that are places and whose told isn't refused."""
    kept = Kept()
    rows = []
    for number in places_among(form, word, way):
        answer = settled(form, word, number, way, "series", kept)[0]
        if is_below_most(form, answer):
            rows.append((number, answer))
    return rows


def told_from(kept, form, word, number, way, by):
    """What told tells, with what is kept already."""
    need_told(form, word, number, way, by)
    return need_below_most(form, settled(form, word, number, way, by, kept)[0])


def shown_from(kept, form, word, number, way, by):
    """What shown tells, with what is kept already."""
    need_told(form, word, number, way, by)
    low, high, power = settled(form, word, number, way, by, kept)[1]
    return Stretch(lowered(low, power), lowered(high, power))


def need_told(form, word, number, way, by):
    """Refuse what told refuses, but for what is too great."""
    need_form(form)
    need_word(word, FUNCTIONS)
    need_word(way, WAYS)
    need_word(by, METHODS)
    need_number(number)
    need_place(word, number)


def places_among(form, word, way):
    """The rising list of all numbers of the form that are places of the function; refused as table is."""
    need_form(form)
    need_word(word, FUNCTIONS)
    need_word(way, WAYS)
    return [number for number in form.numbers() if is_place(word, number)]


def settled(form, word, number, way, by, kept):
    """The number that the worth is rounded to, and low, high and power of a stretch that is rounded to it."""
    exact = exact_at(word, number)
    if exact is not None:
        m, e = exact
        return rounded_twos(form, m, e, way), (m, m, e)
    bits = step_bits(form, word, number)
    more = FIRST_MORE
    while True:
        low, high, power = ends_of_worth(word, number, bits + more, by, kept)
        answer = rounded_twos(form, low, power, way)
        if answer == rounded_twos(form, high, power, way):
            return answer, (low, high, power)
        # That ends, as a worth that isn't exact lies on no border.
        more *= 2


def step_bits(form, word, number):
    """To how many bits a worth is known when it is known to about the form's step at its size."""
    return -step_power(form, likely_size(word, number))


def likely_size(word, number):
    """About which power of two the worth is in size; what is told doesn't hang on it, but how soon it is told."""
    if word == "exp":
        return twos_in_power(number)
    if word == "root":
        return size_of(number) >> 1
    if word == "log":
        return likely_size_of_log(number)
    return -1 if word == "cos" else min(size_of(number), 0)


def likely_size_of_log(number):
    """About which power of two the logarithm of a number is in size."""
    twos, top, bottom = twos_and_ratio(number)
    if twos:
        return twos.bit_length() - 1
    return (top - bottom).bit_length() - bottom.bit_length()


def holds_worth(stretch, word, number, kept):
    """Whether a stretch holds a worth that isn't exact."""
    if stretch.low == stretch.high:
        return False
    bits = -size_of(stretch.width())
    more = FIRST_MORE
    while True:
        low, high, power = ends_of_worth(word, number, bits + more, "series", kept)
        around = Stretch(lowered(low, power), lowered(high, power))
        if around.within(stretch):
            return True
        if around.common(stretch) is None:
            return False
        # That ends, as a worth that isn't exact is no end of a stretch.
        more *= 2
