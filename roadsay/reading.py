"""Texts of sayings taken apart and put together, with names in them or without.

The parts of a text stand in a list in the order in which they end. Each is a tuple of its word alone,
what it is made of standing straight ahead of it, or a whole yes, no, note, is or put, or ("name", name).
"""

from roadsay.errors import NoText

MOST_OPEN = 40
SHORTEST_NAME = 2
LONGEST_NAME = 8
SMALL_LETTERS = "abcdefghijklmnopqrstuvwxyz"
FIGURES = "0123456789"
FIELD_SIGNS = "abc"
FIELD_MARKS = {"=": "is", ":": "put"}
SINGLE_WORDS = ("yes", "no", "note")
NO_NAMES = ("yes", "no", "note", "not", "again")
# The kind of a bracket without a word ahead: whether it is then or either is told by the sign in its middle.
UNDECIDED = "("
OPENINGS = {"(": "(", "not(": "not", "again(": "again"}
JOINTS = {";": "then", "|": "either"}


def is_name(word):
    """Tell whether a word is written as a name."""
    if not SHORTEST_NAME <= len(word) <= LONGEST_NAME or word in NO_NAMES:
        return False
    return all(sign in SMALL_LETTERS for sign in word)


def is_field_word(word):
    """Tell whether a word writes is or put of some field and value, be they of a shape or not."""
    return len(word) == 3 and word[0] in FIELD_SIGNS and word[1] in FIELD_MARKS and word[2] in FIGURES


def words_in(text):
    """Tell the list of the words and signs of a text; an opening bracket belongs to the word straight ahead of it."""
    if " " in text:
        raise NoText("a saying is written without blanks")
    apart = text.replace("(", "( ")
    for sign in (")", ";", "|"):
        apart = apart.replace(sign, f" {sign} ")
    return [word for word in apart.split(" ") if word]


def plain_part(word, with_names):
    """Tell the part that a word without brackets writes; names are let by only where they are asked for."""
    if word in SINGLE_WORDS:
        return (word,)
    if is_field_word(word):
        return FIELD_MARKS[word[1]], FIELD_SIGNS.index(word[0]), int(word[2])
    if with_names and is_name(word):
        return "name", word
    raise NoText("a word of the text is none of a saying")


def open_bracket(opened, kind):
    """Add a bracket of the kind to those that are open."""
    opened.append(kind)
    if len(opened) > MOST_OPEN:
        raise NoText("too many brackets are open at one place")


def join_bracket(opened, kind):
    """Take the sign in the middle of the bracket opened last, which tells whether it is then or either."""
    if not opened or opened[-1] != UNDECIDED:
        raise NoText("a sign stands between no two sayings of one bracket")
    opened[-1] = kind


def close_bracket(opened):
    """Take the bracket opened last off those that are open, and tell its kind."""
    if not opened or opened[-1] == UNDECIDED:
        raise NoText("a bracket is closed at a wrong place")
    return opened.pop()


def parts_in(text, with_names):
    """Tell the list of the parts of a text in the order in which they end; refuse what is not written so."""
    parts = []
    opened = []
    due = True
    for word in words_in(text):
        if due and word in OPENINGS:
            open_bracket(opened, OPENINGS[word])
        elif due:
            parts.append(plain_part(word, with_names))
            due = False
        elif word in JOINTS:
            join_bracket(opened, JOINTS[word])
            due = True
        elif word == ")":
            parts.append((close_bracket(opened),))
        else:
            raise NoText("two sayings stand beside one another without a sign between")
    if due or opened:
        raise NoText("the text stops ahead of its end")
    return parts


def saying_from(parts, names):
    """Tell what parts as parts_in tells them make; names is a dict of what each name stands for."""
    made = []
    for part in parts:
        word = part[0]
        if word == "name":
            made.append(names[part[1]])
        elif word in ("not", "again"):
            made.append((word, made.pop()))
        elif word in ("then", "either"):
            other = made.pop()
            made.append((word, made.pop(), other))
        else:
            made.append(part)
    return made.pop()
