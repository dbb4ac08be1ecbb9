"""A second way to work out what points 15 to 17 tell, straight from their words, for small shapes.

Nothing is shared with the package.
"""

import itertools

import oracle
import oracle_trails


def becomes(table, letter):
    """The set of what a letter becomes by a table."""
    for match, changes in table:
        if all(match[field] == -1 or match[field] == letter[field] for field in range(len(letter))):
            made = set()
            for change in changes:
                other = list(letter)
                for field, value in enumerate(change):
                    if value >= 0:
                        other[field] = value
                made.add(tuple(other))
            return made
    return set()


def does_by(shape, table):
    return [sorted(becomes(table, letter)) for letter in oracle.letters(shape)]


def does(shape, saying):
    return [sorted(trail[0] for trail in oracle_trails.trails(saying, letter, 0)) for letter in oracle.letters(shape)]


def spares(shape, table):
    whole = does_by(shape, table)
    return [place for place in range(len(table))
            if does_by(shape, [rule for at, rule in enumerate(table) if at != place]) == whole]


def saying_by(table):
    """The saying of a table, rule by rule from the first one on."""
    if not table:
        return ("no",)
    match, changes = table[0]
    test = all_fields("is", match, 0)
    return ("either", ("then", test, all_changes(changes)), ("then", ("not", test), saying_by(table[1:])))


def all_fields(word, values, field):
    if field == len(values):
        return ("yes",)
    if values[field] == -1:
        return all_fields(word, values, field + 1)
    return ("then", (word, field, values[field]), all_fields(word, values, field + 1))


def all_changes(changes):
    if not changes:
        return ("no",)
    return ("either", all_fields("put", changes[0], 0), all_changes(changes[1:]))


def matches(shape):
    """All matches, which are all changes, too, rising."""
    return list(itertools.product(*[range(-1, many) for many in shape]))


def some_table(chance, shape, many):
    """A table of so many rules, drawn from a seeded row of chances."""
    every = matches(shape)
    return [(chance.choice(every), sorted(chance.sample(every, chance.randrange(min(4, len(every) + 1)))))
            for place in range(many)]


def nexts_by(shape, saying):
    return dict(zip(oracle.letters(shape), does(shape, saying)))


def come(nexts, starts, goals):
    """What come_to tells: all rows of one letter, of two and so on are gone through, however they come."""
    rows = [(start,) for start in set(starts)]
    seen = set(starts)
    for many in range(len(nexts)):
        there = [row for row in rows if row[-1] in goals]
        if there:
            return "row", list(min(there))
        rows = [row + (after,) for row in rows for after in nexts[row[-1]] if after not in row]
        seen.update(row[-1] for row in rows)
    return "shut", sorted(seen)


def judges_come(nexts, starts, goals, word, letters):
    """What judge_come tells of ("row", letters) and ("shut", letters)."""
    if word == "row":
        steps = all(letters[at + 1] in nexts[letters[at]] for at in range(len(letters) - 1))
        return bool(letters) and letters[0] in starts and letters[-1] in goals and steps
    closed = all(set(nexts[letter]) <= set(letters) for letter in letters)
    return closed and set(starts) <= set(letters) and not set(goals) & set(letters)
