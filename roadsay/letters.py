"""Shapes and their letters."""

from roadsay.errors import NoShape

MOST_FIELDS = 3
MOST_VALUES = 4
MOST_LETTERS = 27


def is_number(thing):
    """Tell whether thing is a whole number; True and False are none."""
    return isinstance(thing, int) and not isinstance(thing, bool)


def is_shape(thing):
    """Tell of anything whether it is a shape."""
    if not isinstance(thing, tuple) or not 1 <= len(thing) <= MOST_FIELDS:
        return False
    many = 1
    for values in thing:
        if not is_number(values) or not 1 <= values <= MOST_VALUES:
            return False
        many *= values
    return many <= MOST_LETTERS


def check_shape(shape):
    """Refuse what is no shape."""
    if not is_shape(shape):
        raise NoShape("a shape is a tuple of one to three numbers from 1 to 4, their product at most 27")


def letters_of(shape):
    """Tell the rising list of the letters of a shape."""
    check_shape(shape)
    letters = [()]
    for values in shape:
        letters = [letter + (value,) for letter in letters for value in range(values)]
    return letters
