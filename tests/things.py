"""Things that tests hand in where something else is due."""

# Made only of what may be handed in: None, True, False, whole numbers, texts, tuples and lists.
NO_SHAPES = [
    None,
    True,
    False,
    0,
    1,
    2,
    -1,
    10 ** 29,
    "",
    "2",
    "(2, 2)",
    "22",
    [],
    [2],
    [2, 2],
    [(2, 2)],
    (),
    (0,),
    (5,),
    (-1,),
    (2, 0),
    (0, 2),
    (2, 5),
    (5, 2),
    (2, 2, 0),
    (2, 2, 5),
    (1, 1, -1),
    (4, 4, 2),
    (4, 2, 4),
    (2, 4, 4),
    (3, 3, 4),
    (4, 3, 3),
    (4, 4, 4),
    (1, 1, 1, 1),
    (2, 2, 2, 2),
    (1,) * 300,
    (True,),
    (False,),
    (2, True),
    (True, 2),
    (2, 2, True),
    ("2",),
    (2, "2"),
    ("",),
    (None,),
    (2, None),
    ([2],),
    (2, [2]),
    ((2,),),
    ((2, 2),),
    (2, (2,)),
    (10 ** 29,),
    (2, 10 ** 29),
    (-10 ** 29, 2),
]


def deep(thing, many):
    """The thing within so many lists and tuples, by turns."""
    for at in range(many):
        thing = (thing,) if at % 2 else [thing]
    return thing


NO_TUPLES = [None, True, False, 0, 1, -1, 10 ** 29, "", "yes", "no", "note", "('yes',)", "a=1", [], ["yes"], ["no"],
             ["note"], ["is", 0, 0], ["put", 0, 0], [["yes"]], [("yes",)], ["then", ("yes",), ("yes",)],
             ["not", ("yes",)], ["again", ("yes",)], deep("yes", 20), deep(("yes",), 19)]


def lists_in(answer):
    """All lists at all places of an answer."""
    found = [answer] if isinstance(answer, list) else []
    if isinstance(answer, (list, tuple)):
        for inner in answer:
            found.extend(lists_in(inner))
    return found
