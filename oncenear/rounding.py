"""Forms of so many bits, and rounding of fractions to their numbers."""

from oncenear.dots import ceiling_at, compared, floor_at, lowered, need_number, negated, size_of
from oncenear.errors import NoForm, NoNumber, TooGreat, TooMany
from oncenear.wholes import is_whole, is_whole_within
from oncenear.words import WAYS, need_word

MOST_NUMBERS = 1000


class Form:
    """All m times 2 ** e, m below 2 ** bits in size, e from least on, below 2 ** most in size."""

    def __init__(self, bits, *, least, most):
        if not is_whole_within(bits, 1, 200) or not is_whole_within(least, -400, 300):
            raise NoForm("bits from 1 to 200 and least from -400 to 300 are needed")
        if not is_whole_within(most, least + 1, 400):
            raise NoForm("most from least + 1 to 400 is needed")
        self.bits = bits
        self.least = least
        self.most = most

    def __eq__(self, other):
        return (isinstance(other, Form) and self.bits == other.bits
                and self.least == other.least and self.most == other.most)

    def __repr__(self):
        return f"Form({self.bits}, least={self.least}, most={self.most})"

    def has(self, number):
        """Whether the number is one of the form."""
        need_number(number)
        m, e = number
        if m == 0:
            return True
        return m.bit_length() <= self.bits and e >= self.least and is_below_most(self, number)

    def count(self):
        """How many numbers the form has."""
        places = min(self.bits, self.most - self.least)
        doublings = self.most - self.least - places
        above_nought = (1 << places) - 1 + (doublings << (self.bits - 1))
        return 2 * above_nought + 1

    def top(self):
        """The greatest number of the form."""
        places = min(self.bits, self.most - self.least)
        return lowered((1 << places) - 1, self.most - places)

    def numbers(self):
        """The rising list of all numbers of the form."""
        many = self.count()
        if many > MOST_NUMBERS:
            raise TooMany(many)
        rising = []
        number = next_outward(self, (0, 0))
        while is_below_most(self, number):
            rising.append(number)
            number = next_outward(self, number)
        return [negated(found) for found in rising[::-1]] + [(0, 0)] + rising

    def above(self, number):
        """The least number of the form that is greater than the number, or None."""
        need_number(number)
        top = self.top()
        if compared(number, top) >= 0:
            return None
        if compared(number, negated(top)) < 0:
            return negated(top)
        return next_above(self, number)

    def below(self, number):
        """The greatest number of the form that is less than the number, or None."""
        need_number(number)
        mirrored = self.above(negated(number))
        return None if mirrored is None else negated(mirrored)

    def step(self, number):
        """How far numbers of the form lie apart at the number's size, as if there were no greatest exponent."""
        need_number(number)
        return (1, step_power_of(self, number))


def step_power(form, size):
    """The exponent of the form's step for sizes from 2 ** size on, below 2 ** (size + 1)."""
    return max(form.least, size + 1 - form.bits)


def step_power_of(form, number):
    """The exponent of the form's step at the number's size."""
    return form.least if number[0] == 0 else step_power(form, size_of(number))


def next_above(form, number):
    """The next greater number of the form, without a greatest exponent."""
    if number[0] < 0:
        return negated(next_inward(form, negated(number)))
    return next_outward(form, number)


def next_outward(form, number):
    """The next greater number of the form, without a greatest exponent, of a number from 0 on."""
    power = step_power_of(form, number)
    return lowered(floor_at(number, power) + 1, power)


def next_inward(form, number):
    """The next less number of the form, without a greatest exponent, of a number above 0."""
    size = size_of(number)
    if number[0] == 1:
        # Just below a power of two the step is that of the lesser size.
        size -= 1
    power = step_power(form, size)
    return lowered(ceiling_at(number, power) - 1, power)


def need_form(thing):
    """Refuse with NoForm what is no form."""
    if not isinstance(thing, Form):
        raise NoForm("a form is needed")


def rounded(form, top, bottom=1, *, way="near"):
    """The number of the form that top by bottom is rounded to, by the way."""
    need_form(form)
    need_word(way, WAYS)
    if not is_whole(top) or not is_whole(bottom) or bottom < 1:
        raise NoNumber("a whole number by one above 0 is needed")
    return need_below_most(form, rounded_freely(form, top, bottom, way))


def is_below_most(form, number):
    """Whether a number is below 2 ** most in size."""
    return number[0] == 0 or size_of(number) < form.most


def need_below_most(form, number):
    """The rounded number itself; refused with TooGreat where it isn't below 2 ** most in size."""
    if not is_below_most(form, number):
        raise TooGreat(number)
    return number


def rounded_freely(form, top, bottom, way):
    """What rounded tells, as if the form had no greatest exponent."""
    if top == 0:
        return (0, 0)
    power = step_power(form, fraction_size(top, bottom))
    if power < 0:
        top <<= -power
    else:
        bottom <<= power
    whole, rest = divmod(top, bottom)
    if goes_up(whole, rest, bottom, way):
        whole += 1
    return lowered(whole, power)


def rounded_twos(form, m, e, way):
    """What m times 2 ** e is rounded to, as if the form had no greatest exponent."""
    if m == 0:
        return (0, 0)
    power = step_power(form, m.bit_length() - 1 + e)
    if power <= e:
        return lowered(m, e)
    whole = m >> (power - e)
    if goes_up(whole, m - (whole << (power - e)), 1 << (power - e), way):
        whole += 1
    return lowered(whole, power)


def fraction_size(top, bottom):
    """The k for which top by bottom is from 2 ** k on, below 2 ** (k + 1), in size; top isn't 0."""
    size = top.bit_length() - bottom.bit_length()
    # The lengths leave open whether it is this size or the next less one.
    if (abs(top) << max(0, -size)) < (bottom << max(0, size)):
        size -= 1
    return size


def goes_up(whole, rest, bottom, way):
    """Whether whole and rest by bottom, counted in steps, is rounded to whole + 1 and not to whole."""
    if rest == 0 or way == "down":
        return False
    if way == "up":
        return True
    if way == "in":
        return whole < 0
    if way == "out":
        return whole >= 0
    return 2 * rest > bottom or (2 * rest == bottom and whole & 1 == 1)
