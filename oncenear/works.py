"""A works: what it found of pi, of the logarithm of 2 and of steps is kept for what is asked later."""

from oncenear.bounds import MOST_BITS
from oncenear.dots import lowered
from oncenear.hardness import hardness_from
from oncenear.kept import Kept
from oncenear.stretches import Stretch
from oncenear.telling import shown_from, told_from
from oncenear.wholes import need_whole_within
from oncenear.worths import worth_bounds_from


class Works:
    """Answers as the functions do, whatever was asked of it ahead."""

    def __init__(self):
        self.kept = Kept()

    def told(self, form, word, number, *, way="near", by="series"):
        """The number of the form that the worth itself is rounded to, by the way."""
        return told_from(self.kept, form, word, number, way, by)

    def shown(self, form, word, number, *, way="near", by="series"):
        """A stretch that holds the worth, all of whose numbers are rounded to the number that told tells."""
        return shown_from(self.kept, form, word, number, way, by)

    def worth_bounds(self, word, number, *, bits, by="series"):
        """A stretch that holds the function's worth at the number, no wider than 2 ** -bits."""
        return worth_bounds_from(self.kept, word, number, bits, by)

    def hardness(self, form, word, number, *, way="near"):
        """The greatest h for which a border lies nearer to the worth than the step divided by 2 ** h, or None."""
        return hardness_from(self.kept, form, word, number, way)

    def pi_bounds(self, bits):
        """A stretch that holds pi, no wider than 2 ** -bits."""
        need_whole_within(bits, 0, MOST_BITS)
        return one_unit(self.kept.pi_at(bits), bits)

    def log_two_bounds(self, bits):
        """A stretch that holds the logarithm of 2, no wider than 2 ** -bits."""
        need_whole_within(bits, 0, MOST_BITS)
        return one_unit(self.kept.log_two_at(bits), bits)

    def known(self):
        """To how many bits bounds of pi and of the logarithm of 2 are known."""
        return (self.kept.pi_depth, self.kept.log_two_depth)

    def forget(self):
        """Let go of all that was found."""
        self.kept = Kept()


def one_unit(units, depth):
    """The stretch from so many units of 2 ** -depth to one more."""
    return Stretch(lowered(units, -depth), lowered(units + 1, -depth))
