"""Lots of states, and the spots that a saying comes to.

A lot is the set of all states at which a saying may be behind the same noted letters, as a number:
bit k is state k of its machine. A spot is a lot with the letter noted last, or, ahead of all notes,
with the letter that the saying is done with. From a spot one noted letter leads to one spot at most,
so each beginning of a trail is gone through just once, by however many ways the saying makes it.
"""

from roadsay.letters import letters_of
from roadsay.machines import OUTSIDE, onward_of
from roadsay.relations import either_of, places_in

# The lot of the beginning alone.
BEGINNING = 1
# The number that stands for no spot at all.
NOWHERE = 0


def notes_from(relations, place, many):
    """Tell, for each of so many letters in turn, the lot of the notes come to with it from the letter at the place."""
    lots = [0] * many
    for stop in relations:
        if stop != OUTSIDE:
            for after in places_in(relations[stop][place]):
                lots[after] |= 1 << stop
    return lots


class Lots:
    """What comes of the lots of a saying's states. Letters are meant by their places among all letters."""

    def __init__(self, shape, saying):
        self.letters = letters_of(shape)
        many = len(self.letters)
        onward = onward_of(self.letters, saying)
        self.ends = [relations[OUTSIDE] for relations in onward]
        self.steps = [[notes_from(relations, place, many) for place in range(many)] for relations in onward]
        self.known_lasts = {}
        self.known_nexts = {}

    def state_count(self):
        """Tell how many states the machine has."""
        return len(self.ends)

    def lasts_at(self, place, lot):
        """Tell, as bits, the last letters that come of the letter and one of the states, without a note."""
        spot = (place, lot)
        if spot not in self.known_lasts:
            lasts = 0
            for state in places_in(lot):
                lasts |= self.ends[state][place]
            self.known_lasts[spot] = lasts
        return self.known_lasts[spot]

    def nexts_at(self, place, lot):
        """Tell, for each letter in turn, the lot that comes of the letter and the states by noting it next."""
        spot = (place, lot)
        if spot not in self.known_nexts:
            lots = [0] * len(self.letters)
            for state in places_in(lot):
                lots = either_of(lots, self.steps[state][place])
            self.known_nexts[spot] = lots
        return self.known_nexts[spot]


def spots_from(lots):
    """Tell the list of all spots (place, lot) that are come to: first those of the letters in turn."""
    found = [(place, BEGINNING) for place in range(len(lots.letters))]
    seen = set(found)
    at = 0
    while at < len(found):
        place, lot = found[at]
        for spot in enumerate(lots.nexts_at(place, lot)):
            if spot[1] and spot not in seen:
                seen.add(spot)
                found.append(spot)
        at += 1
    return found


class Spots:
    """All spots that a saying comes to, by numbers from 1 on; NOWHERE is the one from which nothing comes.

    lasts has for each number the last letters as bits, nexts the numbers that come by noting each letter in turn.
    """

    def __init__(self, shape, saying):
        lots = Lots(shape, saying)
        found = spots_from(lots)
        numbers = {spot: number for number, spot in enumerate(found, start=1)}
        many = len(lots.letters)
        self.letters = lots.letters
        self.starts = list(range(1, many + 1))
        self.lasts = [0] + [lots.lasts_at(place, lot) for place, lot in found]
        self.nexts = [[NOWHERE] * many]
        for place, lot in found:
            self.nexts.append([numbers.get(spot, NOWHERE) for spot in enumerate(lots.nexts_at(place, lot))])

    def last_counts(self):
        """Tell the list, for each number, of how many last letters there are."""
        return [len(places_in(row)) for row in self.lasts]

    def start_of(self, letter):
        """Tell the number of the spot at which the saying begins with the letter."""
        return self.starts[self.letters.index(letter)]
