"""Relations between letters: which letters can come of which.

A relation is a list with a number for each letter in turn. Its bits are the letters that can come
of that one, the lowest bit for the least letter. No relation is changed once it is made, so one may
be used at several places.
"""


def same_letter(many):
    """Tell the relation by which each of so many letters stays what it is."""
    return [1 << at for at in range(many)]


def let_by(flags):
    """Tell the relation by which each letter whose flag is so stays what it is, and no other one goes on."""
    return [1 << at if flag else 0 for at, flag in enumerate(flags)]


def either_of(one, other):
    """Tell the relation of what comes by the one or by the other."""
    return [row | more for row, more in zip(one, other)]


def come_from(row, relation):
    """Tell, as bits, all letters that come by the relation of one of the letters in row."""
    come = 0
    while row:
        lowest = row & -row
        come |= relation[lowest.bit_length() - 1]
        row ^= lowest
    return come


def one_then(first, second):
    """Tell the relation of what comes by the first one and then by the second one."""
    return [come_from(row, second) for row in first]


def any_times(relation):
    """Tell the relation of what comes by it done no time, once or more often."""
    rows = either_of(relation, same_letter(len(relation)))
    for middle in range(len(rows)):
        for at in range(len(rows)):
            if rows[at] >> middle & 1:
                rows[at] |= rows[middle]
    return rows


def places_in(row):
    """Tell the rising list of the places of the letters in row."""
    return [at for at in range(row.bit_length()) if row >> at & 1]
