"""Whole numbers: what is one, their signs and their roots."""

from oncenear.errors import NoNumber


def is_whole(thing):
    """Tell of anything whether it is a whole number; True and False are none."""
    return isinstance(thing, int) and not isinstance(thing, bool)


def is_whole_within(thing, least, most):
    """Tell of anything whether it is a whole number from least to most."""
    return is_whole(thing) and least <= thing <= most


def need_whole_within(thing, least, most):
    """Refuse with NoNumber what is no whole number from least to most."""
    if not is_whole_within(thing, least, most):
        raise NoNumber(f"a whole number from {least} to {most} is needed")


def sign_of(whole):
    """-1, 0 or 1, as whole is below, at or above 0."""
    if whole == 0:
        return 0
    return 1 if whole > 0 else -1


def floor_root(whole):
    """The greatest whole number whose square is no greater than whole, which is 0 or more."""
    if whole == 0:
        return 0
    # Newton's steps fall until they reach the root, if they begin above it.
    guess = 1 << ((whole.bit_length() + 1) // 2)
    nearer = (guess + whole // guess) // 2
    while nearer < guess:
        guess = nearer
        nearer = (guess + whole // guess) // 2
    return guess


def ceiling_root(whole):
    """The least whole number whose square is no less than whole, which is 0 or more."""
    root = floor_root(whole)
    return root if root * root == whole else root + 1
