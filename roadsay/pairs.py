"""Two sayings held against one another.

Inside this file a pair is a tuple (place, ones, others): the place of its letter among all letters,
and its states as a lot of each saying. What is told or handed in is written as point 10 of the
document has it. The lots of the one saying are called mine, those of the other one theirs.
"""

from roadsay.counts import is_below
from roadsay.letters import is_letter
from roadsay.lots import BEGINNING, Lots
from roadsay.relations import places_in
from roadsay.sayings import check_saying


def both_lots(shape, one, other):
    """Tell the lots of two sayings; refuse what is no shape, then what is no saying of it."""
    check_saying(shape, one)
    check_saying(shape, other)
    return Lots(shape, one), Lots(shape, other)


def beginning_pairs(many):
    """Tell the list of the pairs that begin, of a shape with so many letters."""
    return [(place, BEGINNING, BEGINNING) for place in range(many)]


def belonging_pairs(mine, theirs, pair):
    """Tell the list of the pairs that belong to a pair, by their letters in turn."""
    place, ones, others = pair
    own = mine.nexts_at(place, ones)
    return [
        (after, lot, beside)
        for after, (lot, beside) in enumerate(zip(own, theirs.nexts_at(place, others)))
        if lot or beside
    ]


def later_pairs(mine, theirs, pairs, came):
    """Tell the list of the pairs that belong to one of pairs and are not in came yet.

    Each of them is added to came with the pair from which it first came.
    """
    later = []
    for pair in pairs:
        for after in belonging_pairs(mine, theirs, pair):
            if after not in came:
                came[after] = pair
                later.append(after)
    return later


def pairs_of(shape, one, other):
    """Tell the rising list of all pairs that begin or come by belonging."""
    mine, theirs = both_lots(shape, one, other)
    letters = mine.letters
    pairs = beginning_pairs(len(letters))
    came = {pair: None for pair in pairs}
    while pairs:
        pairs = later_pairs(mine, theirs, pairs, came)
    return sorted([(letters[place], tuple(places_in(ones)), tuple(places_in(others))) for place, ones, others in came])


def letters_to(letters, came, pair):
    """Tell the letters of the row of pairs by which a pair came, the one that begins first."""
    row = []
    while pair is not None:
        row.append(letters[pair[0]])
        pair = came[pair]
    return row[::-1]


def first_trail(shape, one, other, wanted):
    """Tell the tuple (letter, trail) with the fewest notes, of these the least one, or None where there is none.

    wanted tells, of the last letters of the one and of the other saying as bits, those that are looked
    for. The pairs come in rising order of the letters that lead to them, so the first one found is the least one.
    """
    mine, theirs = both_lots(shape, one, other)
    letters = mine.letters
    pairs = beginning_pairs(len(letters))
    came = {pair: None for pair in pairs}
    while pairs:
        for pair in pairs:
            place, ones, others = pair
            found = wanted(mine.lasts_at(place, ones), theirs.lasts_at(place, others))
            if found:
                row = letters_to(letters, came, pair)
                return row[0], tuple(row[1:]) + (letters[places_in(found)[0]],)
        pairs = later_pairs(mine, theirs, pairs, came)
    return None


def parted_at(shape, one, other):
    """Tell the first letter and trail that just one of two sayings makes, or None where both make the same."""
    return first_trail(shape, one, other, lambda lasts, beside: lasts ^ beside)


def within_at(shape, one, other):
    """Tell the first letter and trail that the one makes and the other doesn't, or None where there is none."""
    return first_trail(shape, one, other, lambda lasts, beside: lasts & ~beside)


def shared_at(shape, one, other):
    """Tell the first letter and trail that both make, or None where there is none."""
    return first_trail(shape, one, other, lambda lasts, beside: lasts & beside)


def lot_of(thing, many):
    """Tell the lot of a rising tuple of states, each below many, or None where thing is none."""
    if not isinstance(thing, tuple):
        return None
    lot = 0
    for state in thing:
        # What is left of the lot beyond a state is nought only where all states ahead of it are lesser.
        if not is_below(state, many) or lot >> state:
            return None
        lot |= 1 << state
    return lot


def pair_of(shape, mine, theirs, thing):
    """Tell the pair that thing is, or None where it is none."""
    if not isinstance(thing, tuple) or len(thing) != 3 or not is_letter(shape, thing[0]):
        return None
    ones = lot_of(thing[1], mine.state_count())
    others = lot_of(thing[2], theirs.state_count())
    if ones is None or others is None or not ones | others:
        return None
    return mine.letters.index(thing[0]), ones, others


def fits(mine, theirs, pair):
    """Tell whether the last letters of both sides of a pair are the same."""
    place, ones, others = pair
    return mine.lasts_at(place, ones) == theirs.lasts_at(place, others)


def judge_pairs(shape, one, other, thing):
    """Tell of anything whether it is a list of pairs that fit, with all that begin and all that belong to one of it."""
    mine, theirs = both_lots(shape, one, other)
    if not isinstance(thing, list):
        return False
    pairs = [pair_of(shape, mine, theirs, part) for part in thing]
    if None in pairs or not all(fits(mine, theirs, pair) for pair in pairs):
        return False
    held = set(pairs)
    due = beginning_pairs(len(mine.letters))
    for pair in sorted(held):
        due.extend(belonging_pairs(mine, theirs, pair))
    for pair in due:
        if pair not in held:
            return False
    return True
