"""The trails that a saying makes of a letter."""

from roadsay.counts import check_count
from roadsay.errors import TooMany
from roadsay.letters import check_letter, letters_of
from roadsay.lots import Spots
from roadsay.machines import OUTSIDE, onward_of
from roadsay.relations import places_in
from roadsay.sayings import check_saying

MOST_LISTED_NOTES = 4
MOST_TRAILS = 500


def counts_within(spots, most):
    """Tell, for 0 to most notes in turn, the list of how many trails go on from each spot with at most so many."""
    lasts = spots.last_counts()
    counts = [lasts]
    for notes in range(most):
        fewer = counts[notes]
        counts.append([own + sum([fewer[after] for after in row]) for own, row in zip(lasts, spots.nexts)])
    return counts


def ended_trails(spots, begun):
    """Tell the list of the trails that end behind one of the beginnings (noted letters, spot), without a note more."""
    return [noted + (spots.letters[place],) for noted, spot in begun for place in places_in(spots.lasts[spot])]


def longer_beginnings(spots, begun, counts):
    """Tell the list of the beginnings with one more noted letter, those left out from which counts has no trail."""
    return [
        (noted + (letter,), after)
        for noted, spot in begun
        for letter, after in zip(spots.letters, spots.nexts[spot])
        if counts[after]
    ]


def trails_of(shape, saying, letter, most):
    """Tell the rising list of all trails of the letter with at most so many notes."""
    check_saying(shape, saying)
    check_letter(shape, letter)
    check_count(most, MOST_LISTED_NOTES)
    spots = Spots(shape, saying)
    start = spots.start_of(letter)
    counts = counts_within(spots, most)
    if counts[most][start] > MOST_TRAILS:
        raise TooMany("there are more trails than can be told")
    begun = [((), start)]
    trails = ended_trails(spots, begun)
    for left in reversed(range(most)):
        begun = longer_beginnings(spots, begun, counts[left])
        trails.extend(ended_trails(spots, begun))
    return sorted(trails)


def does(shape, saying):
    """Tell, for each letter in turn, the rising list of the letters that alone are a trail of it."""
    check_saying(shape, saying)
    letters = letters_of(shape)
    rows = onward_of(letters, saying)[0][OUTSIDE]
    return [[letters[place] for place in places_in(row)] for row in rows]
