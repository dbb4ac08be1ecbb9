"""A second way to work out what points 7 to 14 tell, straight from their words, for small sayings only.

Trails come from point 7 alone; pairs and rests from the machines of oracle.py, as sets. Nothing is shared with
the package.
"""

import random

import oracle


def trails(saying, letter, most):
    """The set of all trails of the letter with at most so many notes."""
    word = saying[0]
    if word == "yes":
        return {(letter,)}
    if word == "no":
        return set()
    if word == "is":
        return {(letter,)} if letter[saying[1]] == saying[2] else set()
    if word == "put":
        return {(letter[:saying[1]] + (saying[2],) + letter[saying[1] + 1:],)}
    if word == "note":
        return {(letter, letter)} if most > 0 else set()
    if word == "not":
        return set() if trails(saying[1], letter, most) else {(letter,)}
    if word == "either":
        return trails(saying[1], letter, most) | trails(saying[2], letter, most)
    if word == "then":
        return behind(trails(saying[1], letter, most), saying[2], most)
    found = {(letter,)}
    newest = found
    while newest:
        newest = behind(newest, saying[1], most) - found
        found = found | newest
    return found


def behind(firsts, saying, most):
    """All trails of the saying, each put behind one of the first trails, with at most so many notes in all."""
    return {first[:-1] + second for first in firsts for second in trails(saying, first[-1], most - len(first) + 1)}


def tuples_of(shape, saying, most):
    """The set of all tuples (letter, trail) with at most so many notes."""
    return {(letter, trail) for letter in oracle.letters(shape) for trail in trails(saying, letter, most)}


def first_of(tuples):
    """The tuple (letter, trail) with the fewest notes, of these the least; None where there is none."""
    return min(tuples, key=lambda told: (len(told[1]), told), default=None)


def lasts(machine, letter, states):
    return {last for state in states for start, last in machine[state][0] if start == letter}


def led_to(machine, letter, states, after):
    return tuple(sorted({note for state in states for start, noted, note in machine[state][1]
                         if start == letter and noted == after}))


def belonging(shape, machines, pair):
    letter, ones, others = pair
    told = [(after, led_to(machines[0], letter, ones, after), led_to(machines[1], letter, others, after))
            for after in oracle.letters(shape)]
    return {pair for pair in told if pair[1] or pair[2]}


def fits(machines, pair):
    letter, ones, others = pair
    return lasts(machines[0], letter, ones) == lasts(machines[1], letter, others)


def machines_of(shape, one, other):
    return oracle.machine(shape, one), oracle.machine(shape, other)


def pairs(shape, one, other):
    machines = machines_of(shape, one, other)
    found = {(letter, (0,), (0,)) for letter in oracle.letters(shape)}
    newest = found
    while newest:
        newest = set().union(*[belonging(shape, machines, pair) for pair in newest]) - found
        found = found | newest
    return sorted(found)


def judges(shape, one, other, told):
    """Whether a list of things that are all pairs is what judge_pairs lets by."""
    machines = machines_of(shape, one, other)
    due = {(letter, (0,), (0,)) for letter in oracle.letters(shape)}
    due = due.union(*[belonging(shape, machines, pair) for pair in told])
    return due <= set(told) and all(fits(machines, pair) for pair in told)


def least(shape, saying):
    """The least machine: rests are told apart by how they go on for as many notes as there are spots."""
    letters = oracle.letters(shape)
    machine = oracle.machine(shape, saying)
    spots = [(letter, states) for letter, states, others in pairs(shape, saying, ("no",)) if states]
    after = {spot: [(letter, led_to(machine, spot[0], spot[1], letter)) for letter in letters] for spot in spots}
    ends = {spot: tuple(sorted(lasts(machine, spot[0], spot[1]))) for spot in spots}
    # A name of a rest is told by the names of those that follow it; None names the empty rest.
    names = {spot: ends[spot] or None for spot in spots}
    for at in range(len(spots) + 1):
        known = {}
        longer = {}
        for spot in spots:
            key = (ends[spot], tuple(names.get(more) for more in after[spot]))
            empty = key == ((), (None,) * len(letters))
            longer[spot] = None if empty else known.setdefault(key, len(known))
        names = longer
    numbers = {}
    waiting = [(letter, (0,)) for letter in letters]
    rows = []
    for spot in waiting:
        if names.get(spot) is not None and names[spot] not in numbers:
            numbers[names[spot]] = len(numbers)
            rows.append(spot)
            waiting.extend(after[spot])
    starts = [numbers.get(names[letter, (0,)]) for letter in letters]
    return starts, [(list(ends[spot]), [(more[0], numbers[names[more]]) for more in after[spot]
                                        if names.get(more) is not None]) for spot in rows]


def varied(chance, shape, saying):
    """The saying with one part, drawn by chance, put otherwise: sometimes alike, sometimes not."""
    inner = [] if saying[0] in ("is", "put") else list(range(1, len(saying)))
    if inner and chance.random() < 0.8:
        at = chance.choice(inner)
        return saying[:at] + (varied(chance, shape, saying[at]),) + saying[at + 1:]
    field = chance.randrange(len(shape))
    value = chance.randrange(shape[field])
    return chance.choice([
        ("then", saying, ("yes",)),
        ("either", ("no",), saying),
        ("either", saying, ("then", saying, ("no",))),
        ("either", saying, ("is", field, value)),
        ("then", ("is", field, value), saying),
        ("either", ("then", ("is", field, value), saying), ("then", ("not", ("is", field, value)), saying)),
        ("is", field, value),
        ("yes",),
        ("no",),
    ])


def varied_pairs(chance, shape, sayings):
    """For each saying a tuple of it and of one that is put otherwise, both with at most five notes."""
    told = []
    for saying in sayings:
        other = varied(chance, shape, saying)
        if oracle.count_notes(other) <= 5 and is_right(other, False):
            told.append((saying, other))
    return told


def is_right(saying, in_test):
    """Whether no part within not is a part that no test has."""
    if saying[0] in ("is", "put"):
        return not (in_test and saying[0] == "put")
    if in_test and saying[0] in ("note", "again"):
        return False
    return all(is_right(inner, in_test or saying[0] == "not") for inner in saying[1:])


def some_pairs():
    """Tuples (shape, one, other) of sayings drawn by a seeded row of chances, about half of them alike."""
    told = []
    for shape, many in [((1,), 30), ((2,), 100), ((3,), 40), ((2, 2), 60), ((2, 1, 2), 40), ((2, 3), 20)]:
        chance = random.Random(23)
        sayings = oracle.some_sayings(shape, many, 29)
        both = varied_pairs(chance, shape, sayings) + list(zip(sayings, sayings[1:]))
        told.extend((shape, one, other) for one, other in both)
    return told
