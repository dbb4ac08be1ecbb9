"""Sayings that make their trails from last to first, and tests as lists of letters."""

from roadsay.letters import check_letters, check_shape, letters_of
from roadsay.sayings import check_saying, check_test, inner_parts, parts_by
from roadsay.trails import does


def in_turn(word, sayings, last):
    """Tell the saying (word, the first one, (word, the second one, .. last))."""
    saying = last
    for one in reversed(sayings):
        saying = (word, one, saying)
    return saying


def turned_put(shape, field, value):
    """Tell the saying that makes of a letter with the value in the field all those that put makes into it."""
    puts = [("put", field, before) for before in range(shape[field])]
    return "then", ("is", field, value), in_turn("either", puts[:-1], puts[-1])


def turned_inner(part):
    """Tell the tuple of those sayings within a part that are turned themselves; a test within not stays."""
    return () if part[0] == "not" else inner_parts(part)


def turned_part(shape, part, made):
    """Tell a part turned; what is within it was turned already and is taken off the end of made, foremost one last."""
    word = part[0]
    if word == "put":
        return turned_put(shape, part[1], part[2])
    if word == "again":
        return word, made.pop()
    if word not in ("then", "either"):
        return part
    one = made.pop()
    other = made.pop()
    return (word, other, one) if word == "then" else (word, one, other)


def turned_saying(shape, saying):
    """Tell the saying that makes the trails of the saying from last to first.

    Sayings that were told may lie deep, so the parts are turned from the last one to the first one, without deep calls.
    """
    check_saying(shape, saying)
    made = []
    for part in reversed(parts_by(saying, turned_inner)):
        made.append(turned_part(shape, part, made))
    return made.pop()


def test_letters(shape, test):
    """Tell the rising list of the letters that a test lets by."""
    check_test(shape, test)
    return [letter for letter, lasts in zip(letters_of(shape), does(shape, test)) if lasts]


def letter_test(letter):
    """Tell the test that lets by just this letter."""
    return in_turn("then", [("is", field, value) for field, value in enumerate(letter)], ("yes",))


def test_of(shape, letters):
    """Tell the test that lets by just the letters in the list."""
    check_shape(shape)
    check_letters(shape, letters)
    return in_turn("either", [letter_test(letter) for letter in sorted(set(letters))], ("no",))
