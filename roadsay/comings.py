"""What letters can come from what others by a saying done again and again."""

from roadsay.letters import are_letters, check_letters, letters_of
from roadsay.sayings import check_saying
from roadsay.trails import does


def check_asked(shape, saying, starts, goals):
    """Refuse what is no shape, no saying of it and no list of its letters, in this order."""
    check_saying(shape, saying)
    check_letters(shape, starts)
    check_letters(shape, goals)


def nexts_by(shape, saying):
    """Tell the dict, for each letter, of the rising list of the letters that can come next."""
    return {letter: nexts for letter, nexts in zip(letters_of(shape), does(shape, saying))}


def row_to(came, letter):
    """Tell the row of letters by which a letter came; came has for each letter the one ahead of it, or None."""
    row = []
    while letter is not None:
        row.append(letter)
        letter = came[letter]
    return row[::-1]


def come_to(shape, saying, starts, goals):
    """Tell the shortest row of letters from one of starts to one of goals, or the shut lot of all that can come.

    Letters are found in the order of their rows: shorter ones first, of like ones the least, as the starts
    and all that can come next are gone through in rising order. So the first goal found has the row looked for.
    """
    check_asked(shape, saying, starts, goals)
    nexts = nexts_by(shape, saying)
    found = sorted(set(starts))
    came = {letter: None for letter in found}
    at = 0
    while at < len(found):
        letter = found[at]
        if letter in goals:
            return "row", row_to(came, letter)
        for after in nexts[letter]:
            if after not in came:
                came[after] = letter
                found.append(after)
        at += 1
    return "shut", sorted(found)


def is_row(nexts, starts, goals, letters):
    """Tell whether letters go from one of starts to one of goals, each next one coming next."""
    if not letters or letters[0] not in starts or letters[-1] not in goals:
        return False
    return all(after in nexts[letter] for letter, after in zip(letters, letters[1:]))


def is_shut(nexts, starts, goals, letters):
    """Tell whether letters have all starts, no goal, and with each letter all that can come next."""
    held = {letter: True for letter in letters}
    due = starts + [after for letter in held for after in nexts[letter]]
    return all(letter in held for letter in due) and not any(letter in held for letter in goals)


def judge_come(shape, saying, starts, goals, thing):
    """Tell of anything whether it is a row from one of starts to one of goals, or a shut lot that has no goal."""
    check_asked(shape, saying, starts, goals)
    if not isinstance(thing, tuple) or len(thing) != 2 or not are_letters(shape, thing[1]):
        return False
    word, letters = thing
    if word == "row":
        return is_row(nexts_by(shape, saying), starts, goals, letters)
    if word == "shut":
        return is_shut(nexts_by(shape, saying), starts, goals, letters)
    return False
