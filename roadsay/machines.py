"""The machine of a saying: from which note it can come to which, and with what letters.

The roads of a saying are a dict. Its keys are tuples (start, stop); its values are relations of the
letters at the stop to those at the start, without a note between. Note k is called k. OUTSIDE is, as
a start, the beginning of the saying, and, as a stop, its end.
"""

from roadsay.letters import letters_of
from roadsay.relations import any_times, either_of, let_by, one_then, places_in, same_letter
from roadsay.sayings import check_saying, parts_of

OUTSIDE = 0
# The way from the beginning to the end: the roads of every saying have it, be its relation empty or not.
THROUGH = (0, 0)
MADE_WORDS = ("then", "either", "again", "not")


def put_relation(letters, field, value):
    """Tell the relation by which each letter becomes the one with the value in the field."""
    places = {letter: at for at, letter in enumerate(letters)}
    become = [letter[:field] + (value,) + letter[field + 1:] for letter in letters]
    return [1 << places[letter] for letter in become]


def plain_relation(letters, part):
    """Tell the relation of a part that is yes, no, is or put."""
    word = part[0]
    if word == "yes":
        return same_letter(len(letters))
    if word == "no":
        return [0] * len(letters)
    if word == "is":
        return let_by([letter[part[1]] == part[2] for letter in letters])
    return put_relation(letters, part[1], part[2])


def note_roads(many, note):
    """Tell the roads of the note with this number, of a shape with so many letters."""
    return {
        THROUGH: [0] * many,
        (OUTSIDE, note): same_letter(many),
        (note, OUTSIDE): same_letter(many),
    }


def from_outside(roads):
    """Tell the dict of the relations from the beginning, by their stops."""
    return {stop: roads[start, stop] for start, stop in roads if start == OUTSIDE}


def to_outside(roads):
    """Tell the dict of the relations to the end, by their starts."""
    return {start: roads[start, stop] for start, stop in roads if stop == OUTSIDE}


def add_road(roads, way, relation):
    """Add a relation to what the roads already have at this way."""
    roads[way] = either_of(roads[way], relation) if way in roads else relation


def then_roads(first, second):
    """Tell the roads of the first saying and then the second one."""
    roads = {way: first[way] for way in first if way[1] != OUTSIDE}
    for way in second:
        if way[0] != OUTSIDE:
            roads[way] = second[way]
    leaving = to_outside(first)
    entering = from_outside(second)
    for start in leaving:
        for stop in entering:
            roads[start, stop] = one_then(leaving[start], entering[stop])
    return roads


def either_roads(one, other):
    """Tell the roads of either of two sayings."""
    roads = {way: one[way] for way in one}
    for way in other:
        add_road(roads, way, other[way])
    return roads


def again_roads(once):
    """Tell the roads of a saying done any number of times.

    Only the times that pass no note can go on without end, so they are gathered first; then each
    road out of the saying is followed by them, and each road into it follows them.
    """
    rounds = any_times(once[THROUGH])
    leaving = to_outside(once)
    entering = from_outside(once)
    leaving[OUTSIDE] = same_letter(len(rounds))
    entering[OUTSIDE] = same_letter(len(rounds))
    roads = {way: once[way] for way in once if OUTSIDE not in way}
    for start in leaving:
        left = one_then(leaving[start], rounds)
        for stop in entering:
            add_road(roads, (start, stop), one_then(left, entering[stop]))
    return roads


def not_roads(test):
    """Tell the roads of not of a test."""
    return {THROUGH: let_by([row == 0 for row in test[THROUGH]])}


def take_made(word, made):
    """Take the roads of what a part is made of off the end of made, and tell those of the part.

    Parts are made from the last one to the first one, so the foremost one lies at the end.
    """
    one = made.pop()
    if word == "again":
        return again_roads(one)
    if word == "not":
        return not_roads(one)
    other = made.pop()
    return then_roads(one, other) if word == "then" else either_roads(one, other)


def roads_of(letters, parts, notes):
    """Tell the roads of a saying that has these parts and so many notes.

    The parts are gone through from the last one to the first one, so that whatever a part is made of
    comes ahead of it, and a saying that lies deep takes no deep calls.
    """
    plain = {}
    made = []
    note = notes
    for part in reversed(parts):
        word = part[0]
        if word in MADE_WORDS:
            roads = take_made(word, made)
        elif word == "note":
            roads = note_roads(len(letters), note)
            note -= 1
        else:
            if part not in plain:
                plain[part] = {THROUGH: plain_relation(letters, part)}
            roads = plain[part]
        made.append(roads)
    return made.pop()


def onward_of(letters, saying):
    """Tell, for the beginning and then each note in turn, the dict of the relations from there, by their stops."""
    parts = parts_of(saying)
    notes = parts.count(("note",))
    roads = roads_of(letters, parts, notes)
    onward = [{} for start in range(notes + 1)]
    for start, stop in roads:
        onward[start][stop] = roads[start, stop]
    return onward


def ends_of(letters, relation):
    """Tell the rising list of tuples (letter, last) of a relation."""
    return [(letter, letters[at]) for letter, row in zip(letters, relation) for at in places_in(row)]


def steps_of(letters, relations):
    """Tell the rising list of tuples (letter, next, note) of relations by their stops; the end is left out."""
    steps = [
        (letter, letters[at], note)
        for note in relations
        if note != OUTSIDE
        for letter, row in zip(letters, relations[note])
        for at in places_in(row)
    ]
    return sorted(steps)


def machine_of(shape, saying):
    """Tell the list of the states of a saying: the beginning, then each note in turn."""
    check_saying(shape, saying)
    letters = letters_of(shape)
    onward = onward_of(letters, saying)
    return [(ends_of(letters, relations[OUTSIDE]), steps_of(letters, relations)) for relations in onward]
