"""A second way to write and read sayings, straight from the words of points 18 and 19.

Texts are read by putting the saying for each innermost bracket in its place, again and again; nothing is shared
with the package.
"""

import itertools
import re

WORDS = {"yes", "no", "note", "not", "again"}
FIELD = re.compile(r"([abc])([=:])([0-9])")
NAME = re.compile(r"[a-z]{2,8}")
INNERMOST = re.compile(r"(not|again)?\(<(\d+)>(?:([;|])<(\d+)>)?\)")


def shown(saying):
    word = saying[0]
    if word in ("is", "put"):
        return "abc"[saying[1]] + {"is": "=", "put": ":"}[word] + str(saying[2])
    if word == "then":
        return "(" + shown(saying[1]) + ";" + shown(saying[2]) + ")"
    if word == "either":
        return "(" + shown(saying[1]) + "|" + shown(saying[2]) + ")"
    if word in ("not", "again"):
        return word + "(" + shown(saying[1]) + ")"
    return word


def is_name(word):
    return bool(NAME.fullmatch(word)) and word not in WORDS


def most_open(text):
    opened = [0] + list(itertools.accumulate({"(": 1, ")": -1}.get(sign, 0) for sign in text))
    return max(opened)


def leaf(word, names):
    """What a word without brackets writes, names as ("name", name); None where it is no such word."""
    if word in ("yes", "no", "note"):
        return (word,)
    field = FIELD.fullmatch(word)
    if field:
        sign, mark, value = field.groups()
        return ({"=": "is", ":": "put"}[mark], "abc".index(sign), int(value))
    return ("name", word) if names and is_name(word) else None


def read(text, names):
    """What a text writes, be it of a shape or not, names as ("name", name); None where it is not written so."""
    if most_open(text) > 40 or re.search(r"[^a-z0-9=:;|()]", text):
        return None
    told = []
    written = ""
    for word in re.split(r"([();|])", text):
        if word in ("", "(", ")", ";", "|", "not", "again"):
            written += word
        else:
            told.append(leaf(word, names))
            written += f"<{len(told) - 1}>"
    if None in told:
        return None

    def put_in_place(found):
        word, one, mark, other = found.groups()
        if (word is None) == (mark is None):
            return "!"
        if word:
            told.append((word, told[int(one)]))
        else:
            told.append(({";": "then", "|": "either"}[mark], told[int(one)], told[int(other)]))
        return f"<{len(told) - 1}>"

    while INNERMOST.search(written):
        written = INNERMOST.sub(put_in_place, written)
    return told[int(written[1:-1])] if re.fullmatch(r"<\d+>", written) else None


def names_in(saying):
    if saying[0] == "name":
        return [saying[1]]
    return [] if saying[0] in ("is", "put") else [name for inner in saying[1:] for name in names_in(inner)]


def filled(saying, names):
    """The saying with what each name stands for in its place."""
    if saying[0] == "name":
        return names[saying[1]]
    if saying[0] in ("is", "put"):
        return saying
    return (saying[0],) + tuple(filled(inner, names) for inner in saying[1:])
