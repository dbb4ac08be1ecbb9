"""Things that tests hand in where something else is due."""

# Made only of what may be handed in: None, True, False, whole numbers, texts, tuples and lists.
NO_SHAPES = [
    None,
    True,
    False,
    0,
    1,
    2,
    -1,
    10 ** 29,
    "",
    "2",
    "(2, 2)",
    "22",
    [],
    [2],
    [2, 2],
    [(2, 2)],
    (),
    (0,),
    (5,),
    (-1,),
    (2, 0),
    (0, 2),
    (2, 5),
    (5, 2),
    (2, 2, 0),
    (2, 2, 5),
    (1, 1, -1),
    (4, 4, 2),
    (4, 2, 4),
    (2, 4, 4),
    (3, 3, 4),
    (4, 3, 3),
    (4, 4, 4),
    (1, 1, 1, 1),
    (2, 2, 2, 2),
    (1,) * 300,
    (True,),
    (False,),
    (2, True),
    (True, 2),
    (2, 2, True),
    ("2",),
    (2, "2"),
    ("",),
    (None,),
    (2, None),
    ([2],),
    (2, [2]),
    ((2,),),
    ((2, 2),),
    (2, (2,)),
    (10 ** 29,),
    (2, 10 ** 29),
    (-10 ** 29, 2),
]


def deep(thing, many):
    """The thing within so many lists and tuples, by turns."""
    for at in range(many):
        thing = (thing,) if at % 2 else [thing]
    return thing


NO_TUPLES = [None, True, False, 0, 1, -1, 10 ** 29, "", "yes", "no", "note", "('yes',)", "a=1", [], ["yes"], ["no"],
             ["note"], ["is", 0, 0], ["put", 0, 0], [["yes"]], [("yes",)], ["then", ("yes",), ("yes",)],
             ["not", ("yes",)], ["again", ("yes",)], deep("yes", 20), deep(("yes",), 19)]


SIX_NOTES = ("then", ("note",), ("then", ("note",), ("then", ("note",), ("then", ("note",),
             ("then", ("note",), ("note",))))))

# No sayings of the shape (2, 2).
NO_SAYINGS = NO_TUPLES + [(), ("maybe",), ("yes", 0), ("is", 2, 0), ("is", 0, 2), ("is", -1, 0), ("is", 0, -1),
                          ("put", 0, True), ("put", False, 0), ("is", 0), ("not", ("note",)), ("not", ("put", 0, 0)),
                          ("not", ("again", ("yes",))), ("then", ("yes",)), ("again", ["yes"]),
                          ("either", ("yes",), None), (("yes",),), ("again", ("then", ("yes",), ("is", 0, 2))), SIX_NOTES]

# No letters of the shape (2, 2).
NO_LETTERS = [None, True, False, 0, 1, 10 ** 29, "", "00", "(0, 0)", [], [0, 0], [(0, 0)], (), (0,), (1,), (0, 0, 0),
              (0, 2), (2, 0), (-1, 0), (0, -1), (0, 10 ** 29), (-10 ** 29, 0), (True, 0), (0, False), (False, False),
              (None, 0), (0, None), ("0", "0"), ("0", 0), ([0], 0), (0, [0]), ((0, 0),), ((0,), (0,)), ((0, 0), (0, 0)),
              (0,) * 300, ("yes",), deep((0, 0), 18)]

# No lists of letters of the shape (2, 2).
NO_LISTS = ([None, True, False, 0, 1, 10 ** 29, "", "00", "letters", (), ((0, 0),), ((0, 0), (1, 1)), (0, 0), ("yes",),
             ([(0, 0)],), deep((0, 0), 18)]
            + [[thing] for thing in NO_LETTERS] + [[(0, 0), (1, 1), thing] for thing in NO_LETTERS])

# No counts, however far they go.
NO_COUNTS = [None, True, False, -1, -10 ** 29, 201, 1000, 10 ** 29, "", "0", "1", [], [0], [1, 2], (), (0,), (1,),
             (0, 0), deep(1, 20)]

# No matches of the shape (2, 2), which are no changes either.
NO_MATCHES = [None, True, False, 0, -1, 10 ** 29, "", "00", [], [0, 0], [-1, -1], [(0, 0)], (), (0,), (-1,), (0, 0, 0),
              (-1, -1, -1), (0, 2), (2, 0), (-1, 2), (-2, 0), (0, -2), (-2, -2), (0, 10 ** 29), (-10 ** 29, 0),
              (True, 0), (0, True), (False, 0), (-1, False), (None, 0), (0, None), ("0", 0), (0, "0"), ("", ""),
              ([0], 0), (0, [0]), ((0, 0),), ((0,), (0,)), (0, (0,)), (-1,) * 300, deep((0, 0), 17)]

# No lists of changes of the shape (2, 2): what is no list, what has a part that is no change, what does not rise.
NO_CHANGES = ([None, True, False, 0, 1, 10 ** 29, "", "00", (), ((0, 0),), ((0, 0), (1, 1)), (0, 0), ([(0, 0)],)]
              + [[thing] for thing in NO_MATCHES] + [[(-1, -1), thing] for thing in NO_MATCHES]
              + [[(0, 0), (0, 0)], [(0, 0), (-1, 0)], [(0, 1), (0, 0)], [(0, 0), (1, 1), (1, 0)], [(-1, -1)] * 3,
                 [(-1, -1), (0, 0), (0, 0), (1, 1)], [(1, 1), (0, 0), (1, 1)], [(0, -1), (0, 0), (0, 1), (-1, 1)]])

# No rules of the shape (2, 2).
NO_RULES = ([None, True, False, 0, 1, 10 ** 29, "", "rule", [], (), ((0, 0),), ([],), [(0, 0), []], ([], (0, 0)),
             ((0, 0), [], []), ((0, 0), (0, 0)), ((0, 0), [(0, 0)], None), (((0, 0), []),), [((0, 0), [])]]
            + [(thing, []) for thing in NO_MATCHES] + [(thing, [(0, 0)]) for thing in NO_MATCHES]
            + [((0, 0), thing) for thing in NO_CHANGES])

RULE = ((0, -1), [(-1, 1), (1, -1)])
# No tables of the shape (2, 2).
NO_TABLES = ([None, True, False, 0, 1, -1, 10 ** 29, "", "table", (), (RULE,), RULE, (0, 0), ("yes",), deep(RULE, 17),
              [RULE] * 61, [RULE] * 62, [RULE] * 300]
             + [[thing] for thing in NO_RULES] + [[RULE, thing] for thing in NO_RULES]
             + [[thing, RULE] for thing in NO_RULES])


def in_row(word, sayings, last):
    """(word, the first one, (word, the second one, .. last))."""
    for saying in reversed(sayings):
        last = (word, saying, last)
    return last


def then_all(sayings):
    return in_row("then", sayings[:-1], sayings[-1])


def either_all(sayings):
    return in_row("either", sayings[:-1], sayings[-1])


def any_letter(shape):
    """A saying that makes each letter of each letter, without a note."""
    return then_all([either_all([("put", field, value) for value in range(many)]) for field, many in enumerate(shape)])


def put_all(letter):
    return then_all([("put", field, value) for field, value in enumerate(letter)])


def is_all(letter):
    return then_all([("is", field, value) for field, value in enumerate(letter)])


def count_on(shape, field=None):
    """A saying that makes of each letter the next one, of the last one the first one, without a note."""
    field = len(shape) - 1 if field is None else field
    most = shape[field] - 1
    turns = [then_all([("is", field, value), ("put", field, value + 1)]) for value in range(most)]
    over = [("is", field, most), ("put", field, 0)] + ([count_on(shape, field - 1)] if field else [])
    return either_all(turns + [then_all(over)])


CUBE = (3, 3, 3)
FIRST, LAST = (0, 0, 0), (2, 2, 2)

# Both note all letters of the cube in turn, again and again; the second one stops ahead of the last one.
ROUND = ("then", put_all(FIRST), ("again", ("then", ("note",), count_on(CUBE))))
SHORT = ("then", put_all(FIRST), ("again", then_all([("not", is_all(LAST)), ("note",), count_on(CUBE)])))
# The same with five notes for each letter.
FIVES = then_all([("note",)] * 5)
LONG_ROUND = ("then", put_all(FIRST), ("again", ("then", FIVES, count_on(CUBE))))
LONG_SHORT = ("then", put_all(FIRST), ("again", then_all([("not", is_all(LAST)), FIVES, count_on(CUBE)])))


def count_parts(saying):
    return 1 if saying[0] in ("is", "put") else 1 + sum(count_parts(inner) for inner in saying[1:])


def lists_in(answer):
    """All lists at all places of an answer."""
    found = [answer] if isinstance(answer, list) else []
    if isinstance(answer, (list, tuple)):
        for inner in answer:
            found.extend(lists_in(inner))
    return found
