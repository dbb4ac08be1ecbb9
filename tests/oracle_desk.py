"""A second desk, straight from the words of point 19: it keeps all that ever was, and tells refusals by their names.

What sayings do is asked of the package's own functions, which have tests of their own; lines, words, names and
undoing share nothing with the package.
"""

import re

from roadsay.comings import come_to
from roadsay.errors import SayError
from roadsay.least import least_machine, trail_count
from roadsay.letters import is_shape, letters_of
from roadsay.pairs import parted_at, shared_at, within_at
from roadsay.sayings import is_saying
from roadsay.trails import does, trails_of

import oracle
import oracle_texts
from things import count_parts

N = "(0|[1-9][0-9]?[0-9]?)"
NAME = "([a-z]{2,8})"
WORD = "([^ ]+)"
FORMS = {
    "fields": [f"{N}", f"{N} {N}", f"{N} {N} {N}"],
    "let": [f"{NAME} = {WORD}"],
    "drop": [NAME],
    "names": [""],
    "show": [NAME],
    "do": [f"{WORD} {WORD}"],
    "trails": [f"{WORD} {WORD} {N}"],
    "count": [f"{WORD} {WORD} {N}"],
    "rests": [WORD],
    "alike": [f"{WORD} {WORD}"],
    "within": [f"{WORD} {WORD}"],
    "apart": [f"{WORD} {WORD}"],
    "come": [f"{WORD} {WORD} {WORD}"],
    "undo": [""],
}


class Refused(Exception):
    pass


def joined(words):
    return " ".join(words) or "none"


def figures(letter):
    return "".join(map(str, letter))


def trail_text(trail):
    return "-".join(map(figures, trail))


def found_text(found, otherwise):
    return otherwise if found is None else figures(found[0]) + " " + trail_text(found[1])


class OtherDesk:
    def __init__(self):
        # What was ahead of each line that is not undone, and at the end what is now.
        self.all = [((2, 2), {})]

    def tell(self, line):
        """The answer, or the name of the refusal."""
        try:
            return "answer", self.answer(line)
        except Refused as refused:
            return "refused", str(refused)
        except SayError as error:
            return "refused", type(error).__name__

    def words(self, line):
        for first, forms in FORMS.items():
            for form in forms:
                found = re.fullmatch(f"{first} {form}" if form else first, line)
                if found and not (first in ("let", "drop", "show") and not oracle_texts.is_name(found.group(1))):
                    return first, found.groups()
        raise Refused("NoLine")

    def letter(self, word):
        told = {figures(letter): letter for letter in letters_of(self.all[-1][0])}
        if word not in told:
            raise Refused("NoLetter")
        return told[word]

    def saying(self, word):
        shape, names = self.all[-1]
        read = oracle_texts.read(word, True)
        if read is None:
            raise Refused("NoText")
        if not set(oracle_texts.names_in(read)) <= set(names):
            raise Refused("NoName")
        whole = oracle_texts.filled(read, names)
        if not is_saying(shape, whole) or count_parts(whole) > 60:
            raise Refused("NoText")
        return whole

    def change(self, shape, names):
        if (shape, names) != self.all[-1]:
            self.all.append((shape, names))

    def answer(self, line):
        first, words = self.words(line)
        shape, names = self.all[-1]
        if first == "fields":
            fields = tuple(map(int, words))
            if not is_shape(fields):
                raise Refused("NoShape")
            self.change(fields, {})
            return f"fields {len(letters_of(fields))}"
        if first == "undo":
            if len(self.all) == 1:
                raise Refused("NoUndo")
            self.all.pop()
            return f"undo {len(self.all) - 1}"
        if first == "names":
            return joined(sorted(names))
        if first == "let":
            whole = self.saying(words[1])
            self.change(shape, dict(list(names.items()) + [(words[0], whole)]))
            return f"let {words[0]} {oracle.count_notes(whole)}"
        if first in ("drop", "show"):
            if words[0] not in names:
                raise Refused("NoName")
            if first == "show":
                return oracle_texts.shown(names[words[0]])
            self.change(shape, {name: names[name] for name in names if name != words[0]})
            return f"drop {words[0]}"
        return self.asked(first, words)

    def asked(self, first, words):
        shape = self.all[-1][0]
        one = self.saying(words[0])
        if first == "rests":
            return str(len(least_machine(shape, one)[1]))
        if first in ("alike", "within", "apart"):
            other = self.saying(words[1])
            tell, otherwise = {"alike": (parted_at, "alike"), "within": (within_at, "yes"),
                               "apart": (shared_at, "yes")}[first]
            return found_text(tell(shape, one, other), otherwise)
        letter = self.letter(words[1])
        if first == "do":
            return joined(map(figures, does(shape, one)[letters_of(shape).index(letter)]))
        if first == "trails":
            return joined(map(trail_text, trails_of(shape, one, letter, int(words[2]))))
        if first == "count":
            return str(trail_count(shape, one, letter, int(words[2])))
        word, letters = come_to(shape, one, [letter], [self.letter(words[2])])
        return "row " + trail_text(letters) if word == "row" else f"shut {len(letters)}"
