"""Shapes and their letters."""

from roadsay.counts import is_below, is_number
from roadsay.errors import NoLetter, NoShape

MOST_FIELDS = 3
MOST_VALUES = 4
MOST_LETTERS = 27


def is_shape(thing):
    """Tell of anything whether it is a shape."""
    if not isinstance(thing, tuple) or not 1 <= len(thing) <= MOST_FIELDS:
        return False
    many = 1
    for values in thing:
        if not is_number(values) or not 1 <= values <= MOST_VALUES:
            return False
        many *= values
    return many <= MOST_LETTERS


def check_shape(shape):
    """Refuse what is no shape."""
    if not is_shape(shape):
        raise NoShape("a shape is a tuple of one to three numbers from 1 to 4, their product at most 27")


def letters_of(shape):
    """Tell the rising list of the letters of a shape."""
    check_shape(shape)
    letters = [()]
    for values in shape:
        letters = [letter + (value,) for letter in letters for value in range(values)]
    return letters


def is_letter(shape, thing):
    """Tell of anything whether it is a letter of the shape."""
    if not isinstance(thing, tuple) or len(thing) != len(shape):
        return False
    return all(is_below(value, values) for value, values in zip(thing, shape))


def check_letter(shape, thing):
    """Refuse what is no letter of the shape."""
    if not is_letter(shape, thing):
        raise NoLetter("this is no letter of the shape")


def are_letters(shape, thing):
    """Tell of anything whether it is a list of letters of the shape."""
    return isinstance(thing, list) and all(is_letter(shape, letter) for letter in thing)


def check_letters(shape, thing):
    """Refuse what is no list of letters of the shape."""
    if not are_letters(shape, thing):
        raise NoLetter("this is no list of letters of the shape")
