"""Whole numbers: what is one, and their roots."""

from oncenear.errors import NoNumber


def is_whole(thing):
    """Tell of anything whether it is a whole number; True and False are none."""
    return isinstance(thing, int) and not isinstance(thing, bool)


def is_whole_within(thing, least, most):
    """Tell of anything whether it is a whole number from least to most."""
    return is_whole(thing) and least <= thing <= most


def need_whole_within(thing, least, most):
    """Refuse with NoNumber what is no whole number from least to most."""
    if not is_whole_within(thing, least, most):
        raise NoNumber(f"a whole number from {least} to {most} is needed")


def floor_root(whole):
    """The greatest whole number whose square is no greater than whole, which is 0 or more."""
    if whole == 0:
        return 0
    # The root of the first bits is known to 1; each round makes those twice as many, by half the sum of the root and
    # what whole divided by it is.
    half = (whole.bit_length() - 1) // 2
    root = 1
    known = 0
    for place in range(half.bit_length() - 1, -1, -1):
        before = known
        known = half >> place
        root = (root << (known - before - 1)) + (whole >> (2 * half - before - known + 1)) // root
    return root if root * root <= whole else root - 1


def ceiling_root(whole):
    """The least whole number whose square is no less than whole, which is 0 or more."""
    root = floor_root(whole)
    return root if root * root == whole else root + 1


def power_of(base, k):
    """The k-th power of a whole number."""
    power = 1
    for place in range(k.bit_length() - 1, -1, -1):
        power *= power
        if k >> place & 1:
            power *= base
    return power
