"""A second way to work out machines, straight from the words of points 7 and 9.

A saying is walked with a row of parts still to be done; nothing here is shared with the package.
"""

import itertools
import random


PLAIN = ("yes", "no", "note", "is", "put")
TEST_WORDS = ["yes", "no", "is", "is", "then", "either", "not"]
# Words that stand here twice are drawn more often.
WORDS = ["yes", "no", "note", "note", "is", "is", "put", "put", "then", "then", "then", "either", "either", "again",
         "again", "not"]


def letters(shape):
    return list(itertools.product(*[range(many) for many in shape]))


def numbered(saying):
    """The saying with each ("note",) turned into ("note", k)."""
    numbers = itertools.count(1)

    def number(part):
        if part[0] == "note":
            return ("note", next(numbers))
        if part[0] in ("is", "put"):
            return part
        return (part[0],) + tuple(number(inner) for inner in part[1:])

    return number(saying)


def behind_notes(part, rest):
    """For each note of a numbered saying the row of parts to be done behind it."""
    word = part[0]
    if word == "note":
        return {part[1]: rest}
    if word == "then":
        return {**behind_notes(part[1], (part[2],) + rest), **behind_notes(part[2], rest)}
    if word == "either":
        return {**behind_notes(part[1], rest), **behind_notes(part[2], rest)}
    if word == "again":
        return behind_notes(part[1], (part,) + rest)
    return {}


def goes_on(row, letter):
    """What comes of a row of parts without a note: the last letters, and tuples (next, note)."""
    lasts = set()
    steps = set()
    seen = set()
    waiting = [(row, letter)]
    while waiting:
        at = waiting.pop()
        if at in seen:
            continue
        seen.add(at)
        row, now = at
        if not row:
            lasts.add(now)
            continue
        part, rest = row[0], row[1:]
        word = part[0]
        if word == "yes":
            waiting.append((rest, now))
        elif word == "note":
            steps.add((now, part[1]))
        elif word == "is":
            if now[part[1]] == part[2]:
                waiting.append((rest, now))
        elif word == "put":
            waiting.append((rest, now[:part[1]] + (part[2],) + now[part[1] + 1:]))
        elif word == "then":
            waiting.append(((part[1], part[2]) + rest, now))
        elif word == "either":
            waiting.append(((part[1],) + rest, now))
            waiting.append(((part[2],) + rest, now))
        elif word == "again":
            waiting.append((rest, now))
            waiting.append(((part[1], part) + rest, now))
        elif word == "not":
            if not goes_on((part[1],), now)[0]:
                waiting.append((rest, now))
    return lasts, steps


def machine(shape, saying):
    whole = numbered(saying)
    rows = {0: (whole,), **behind_notes(whole, ())}
    states = []
    for state in range(len(rows)):
        ends = []
        steps = []
        for letter in letters(shape):
            lasts, onward = goes_on(rows[state], letter)
            ends.extend((letter, last) for last in sorted(lasts))
            steps.extend((letter, after, note) for after, note in sorted(onward))
        states.append((ends, steps))
    return states


def count_notes(saying):
    if saying[0] in ("is", "put"):
        return 0
    return (saying[0] == "note") + sum(count_notes(inner) for inner in saying[1:])


def some_saying(chance, shape, depth, words):
    """A saying of the shape that lies at most so deep, drawn from a seeded row of chances."""
    all_words = words
    if depth > 4:
        words = [word for word in words if word not in PLAIN]
    if depth == 1:
        words = [word for word in words if word in PLAIN]
    word = chance.choice(words)
    if word in ("yes", "no", "note"):
        return (word,)
    if word in ("is", "put"):
        field = chance.randrange(len(shape))
        return (word, field, chance.randrange(shape[field]))
    within = TEST_WORDS if word == "not" else all_words
    many = 2 if word in ("then", "either") else 1
    return (word,) + tuple(some_saying(chance, shape, depth - 1, within) for inner in range(many))


def some_sayings(shape, many, seed):
    """So many sayings of the shape with at most five notes, the same ones each time."""
    chance = random.Random(seed)
    told = []
    while len(told) < many:
        saying = some_saying(chance, shape, 7, WORDS)
        if count_notes(saying) <= 5:
            told.append(saying)
    return told
