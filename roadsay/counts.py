"""Whole numbers and counts: which things are such."""

from roadsay.errors import NoCount


def is_number(thing):
    """Tell whether thing is a whole number; True and False are none."""
    return isinstance(thing, int) and not isinstance(thing, bool)


def is_below(thing, most):
    """Tell of anything whether it is a whole number from 0 to one less than most."""
    return is_number(thing) and 0 <= thing < most


def check_count(thing, most):
    """Refuse what is no whole number from 0 to most."""
    if not is_below(thing, most + 1):
        raise NoCount("this is no whole number from nought to the most that can be asked for")
