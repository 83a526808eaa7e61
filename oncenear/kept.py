"""What was found and may be needed again: pi, the logarithm of 2 and tables of steps.

Each is told as the greatest whole number of units 2 ** -depth that is no greater than it.
"""

from oncenear.bounds import log_two_units, pi_units
from oncenear.sums import floor_units, shift_sum


class Kept:
    """Keeps what it was asked for, as deep as it was asked for so far."""

    def __init__(self):
        # That pi lies between 3 and 4, and the logarithm of 2 between 0 and 1, is known from the first.
        self.pi_depth = 0
        self.pi_found = 3
        self.log_two_depth = 0
        self.log_two_found = 0
        self.log_steps = {}
        self.arc_steps = {}

    def pi_at(self, depth):
        """Pi in units of 2 ** -depth."""
        if self.pi_depth < depth:
            self.pi_found = pi_units(depth)
            self.pi_depth = depth
        return self.pi_found >> (self.pi_depth - depth)

    def log_two_at(self, depth):
        """The logarithm of 2 in units of 2 ** -depth."""
        if self.log_two_depth < depth:
            self.log_two_found = log_two_units(depth)
            self.log_two_depth = depth
        return self.log_two_found >> (self.log_two_depth - depth)

    def log_step_at(self, i, depth):
        """The logarithm of 1 + 2 ** -i in units of 2 ** -depth."""
        return step_at(self.log_steps, i, depth, 1)

    def arc_step_at(self, i, depth):
        """The arc of 2 ** -i in units of 2 ** -depth."""
        return step_at(self.arc_steps, i, depth, 2)


def step_at(steps, i, depth, stride):
    """The i-th one of a table of steps in units of 2 ** -depth, found where it isn't there as deep."""
    known_depth, found = steps.get(i, (-1, 0))
    if known_depth < depth:
        # It is the sum over k, stride apart, of 2 ** (-i k) by k, signs by turns.
        known_depth, found = depth, floor_units(lambda finer: shift_sum(i, finer, stride), depth)
        steps[i] = (known_depth, found)
    return found >> (known_depth - depth)
