"""The lines that a desk takes: their forms, and what their words mean."""

from roadsay.answers import shown_letter
from roadsay.errors import NoLetter, NoLine, NoName, NoText
from roadsay.letters import letters_of
from roadsay.reading import FIGURES, is_name, parts_in, saying_from
from roadsay.sayings import is_saying, parts_of

MOST_PARTS = 60
MOST_FIGURES = 3

# For the first word of a line, the kinds of words that may follow it: a NAME, a HELD one (a name that is taken for
# its saying), a number N, a letter L, a saying X, or = itself.
FORMS = {
    "fields": (("N",), ("N", "N"), ("N", "N", "N")),
    "let": (("NAME", "=", "X"),),
    "drop": (("NAME",),),
    "names": ((),),
    "show": (("HELD",),),
    "do": (("X", "L"),),
    "trails": (("X", "L", "N"),),
    "count": (("X", "L", "N"),),
    "rests": (("X",),),
    "alike": (("X", "X"),),
    "within": (("X", "X"),),
    "apart": (("X", "X"),),
    "come": (("X", "L", "L"),),
    "undo": ((),),
}


def is_number_word(word):
    """Tell whether a word writes a number of at most three figures, without needless noughts."""
    if not 1 <= len(word) <= MOST_FIGURES or not all(sign in FIGURES for sign in word):
        return False
    return word == "0" or word[0] != "0"


def is_written_as(kind, word):
    """Tell whether a word is written as one of the kind; letters and sayings may be any words here."""
    if kind in ("NAME", "HELD"):
        return is_name(word)
    if kind == "N":
        return is_number_word(word)
    if kind == "=":
        return word == "="
    return word != ""


def has_form(kinds, words):
    """Tell whether words are written as the kinds say, one by one."""
    return len(kinds) == len(words) and all(is_written_as(kind, word) for kind, word in zip(kinds, words))


def taken_apart(line):
    """Tell the first word of a line and the list of tuples (kind, word) of the others; refuse what has no form."""
    if not isinstance(line, str):
        raise NoLine("this is no text")
    first, *others = line.split(" ")
    for kinds in FORMS.get(first, ()):
        if has_form(kinds, others):
            return first, list(zip(kinds, others))
    raise NoLine("this line has none of the forms that a desk takes")


def letter_by(shape, word):
    """Tell the letter that a word writes."""
    for letter in letters_of(shape):
        if shown_letter(letter) == word:
            return letter
    raise NoLetter("this word writes no letter of the shape")


def saying_by(shape, names, word):
    """Tell the saying that a word writes, with names in it for what they stand for."""
    parts = parts_in(word, True)
    for part in parts:
        if part[0] == "name" and part[1] not in names:
            raise NoName("a name in the saying stands for nothing")
    saying = saying_from(parts, names)
    if not is_saying(shape, saying) or len(parts_of(saying)) > MOST_PARTS:
        raise NoText("what comes is no saying of the shape, or has too many parts")
    return saying


def meaning_of(shape, names, kind, word):
    """Tell what a word of the kind means, at a desk with this shape and these names."""
    if kind == "N":
        return int(word)
    if kind == "L":
        return letter_by(shape, word)
    if kind in ("X", "HELD"):
        return saying_by(shape, names, word)
    return word
