"""Sayings and tests: which tuples are such, and what parts they have."""

from roadsay.counts import is_below
from roadsay.errors import NoSaying, NoTest
from roadsay.letters import check_shape

MOST_NOTES = 5

# How long the tuple of a part is that begins with the word.
LENGTHS = {
    "yes": 1,
    "no": 1,
    "note": 1,
    "is": 3,
    "put": 3,
    "then": 3,
    "either": 3,
    "again": 2,
    "not": 2,
}
FIELD_WORDS = ("is", "put")
TEST_WORDS = ("yes", "no", "is", "then", "either", "not")


def has_part_form(shape, thing):
    """Tell of anything whether it is a part of a saying, what lies within it not looked at."""
    if not isinstance(thing, tuple) or len(thing) == 0:
        return False
    word = thing[0]
    if not isinstance(word, str) or LENGTHS.get(word) != len(thing):
        return False
    if word in FIELD_WORDS:
        return is_below(thing[1], len(shape)) and is_below(thing[2], shape[thing[1]])
    return True


def inner_parts(part):
    """Tell the tuple of the sayings of which a part is made, as they stand."""
    return () if part[0] in FIELD_WORDS else part[1:]


def is_made_well(shape, thing, as_test):
    """Tell of anything whether it is a saying of the shape, or a test of it.

    What was told may be handed in again and may lie deep, so the parts wait in a list instead of in calls.
    """
    notes = 0
    waiting = [(thing, as_test)]
    while waiting:
        part, in_test = waiting.pop()
        if not has_part_form(shape, part):
            return False
        word = part[0]
        if in_test and word not in TEST_WORDS:
            return False
        if word == "note":
            notes += 1
        if notes > MOST_NOTES:
            return False
        for inner in inner_parts(part):
            waiting.append((inner, in_test or word == "not"))
    return True


def is_saying(shape, thing):
    """Tell of anything whether it is a saying of the shape."""
    check_shape(shape)
    return is_made_well(shape, thing, False)


def is_test(shape, thing):
    """Tell of anything whether it is a test of the shape."""
    check_shape(shape)
    return is_made_well(shape, thing, True)


def check_saying(shape, saying):
    """Refuse what is no shape, then what is no saying of it."""
    if not is_saying(shape, saying):
        raise NoSaying("this is no saying of the shape")


def check_test(shape, test):
    """Refuse what is no shape, then what is no test of it."""
    if not is_test(shape, test):
        raise NoTest("this is no test of the shape")


def parts_by(saying, inner_of):
    """Tell the list of a saying and all that lies within it as inner_of tells of each part.

    They stand in their order, each ahead of those within it.
    """
    parts = []
    waiting = [saying]
    while waiting:
        part = waiting.pop()
        parts.append(part)
        waiting.extend(inner_of(part)[::-1])
    return parts


def parts_of(saying):
    """Tell the list of all parts of a saying in the order in which they stand, each ahead of those within it."""
    return parts_by(saying, inner_parts)
