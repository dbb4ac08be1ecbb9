"""The least machine of a saying, and how many trails it makes."""

from roadsay.counts import check_count
from roadsay.letters import check_letter
from roadsay.lots import NOWHERE, Spots
from roadsay.relations import places_in
from roadsay.sayings import check_saying

MOST_COUNTED_NOTES = 200
# The kind of the spots from which no trail goes on: NOWHERE is the first spot of all, so its kind is the first one.
EMPTY = 0


def kinds_of(keys):
    """Tell the list of numbers for keys, the same for like ones, from 0 on as they first come."""
    numbers = {}
    for key in keys:
        if key not in numbers:
            numbers[key] = len(numbers)
    return [numbers[key] for key in keys]


def finer_kinds(spots, kinds):
    """Tell kinds that part spots also where, by one more noted letter, they lead to spots of other kinds."""
    return kinds_of([tuple([kind] + [kinds[after] for after in row]) for kind, row in zip(kinds, spots.nexts)])


def rest_kinds(spots):
    """Tell the list of the kinds of all spots, the same one just for spots with the same rest."""
    kinds = kinds_of(spots.lasts)
    finer = finer_kinds(spots, kinds)
    while max(finer) > max(kinds):
        kinds = finer
        finer = finer_kinds(spots, kinds)
    return kinds


def first_spots(spots, kinds):
    """Tell the list of a spot for each rest that isn't empty, in the order of the numbers of the rests."""
    found = []
    seen = {EMPTY}
    waiting = list(spots.starts)
    at = 0
    while at < len(waiting):
        spot = waiting[at]
        if kinds[spot] not in seen:
            seen.add(kinds[spot])
            found.append(spot)
            waiting.extend(spots.nexts[spot])
        at += 1
    return found


def row_of(spots, spot, rests):
    """Tell the tuple (lasts, nexts) of a spot; rests has for each spot the number of its rest, or None."""
    lasts = [spots.letters[place] for place in places_in(spots.lasts[spot])]
    nexts = [
        (letter, rests[after])
        for letter, after in zip(spots.letters, spots.nexts[spot])
        if rests[after] is not None
    ]
    return lasts, nexts


def least_machine(shape, saying):
    """Tell the least machine of a saying: the tuple (starts, rows)."""
    check_saying(shape, saying)
    spots = Spots(shape, saying)
    kinds = rest_kinds(spots)
    found = first_spots(spots, kinds)
    numbers = {kinds[spot]: number for number, spot in enumerate(found)}
    rests = [numbers.get(kind) for kind in kinds]
    return [rests[spot] for spot in spots.starts], [row_of(spots, spot, rests) for spot in found]


def trail_count(shape, saying, letter, many):
    """Tell how many trails with just so many notes the saying makes of the letter."""
    check_saying(shape, saying)
    check_letter(shape, letter)
    check_count(many, MOST_COUNTED_NOTES)
    spots = Spots(shape, saying)
    nexts = [[after for after in row if after != NOWHERE] for row in spots.nexts]
    counts = spots.last_counts()
    for notes in range(many):
        counts = [sum([counts[after] for after in row]) for row in nexts]
    return counts[spots.start_of(letter)]
