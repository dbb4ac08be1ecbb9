"""Tables of rules, which tell what each letter becomes."""

from roadsay.counts import is_number
from roadsay.errors import NoTable
from roadsay.letters import check_shape, letters_of
from roadsay.sayings import check_saying
from roadsay.trails import does
from roadsay.turned import in_turn

# Stands in a match for any value, and in a change for the value that is there already.
ANY = -1
MOST_RULES = 60


def is_value_or_any(thing, many):
    """Tell of anything whether it is one of so many values, or ANY."""
    return is_number(thing) and ANY <= thing < many


def is_match(shape, thing):
    """Tell of anything whether it is a match of the shape, which has the same form as a change."""
    if not isinstance(thing, tuple) or len(thing) != len(shape):
        return False
    return all(is_value_or_any(value, many) for value, many in zip(thing, shape))


def are_changes(shape, thing):
    """Tell of anything whether it is a rising list of changes."""
    if not isinstance(thing, list) or not all(is_match(shape, change) for change in thing):
        return False
    return all(change < after for change, after in zip(thing, thing[1:]))


def is_rule(shape, thing):
    """Tell of anything whether it is a rule of the shape."""
    return isinstance(thing, tuple) and len(thing) == 2 and is_match(shape, thing[0]) and are_changes(shape, thing[1])


def is_table(shape, thing):
    """Tell of anything whether it is a table of the shape."""
    check_shape(shape)
    return isinstance(thing, list) and len(thing) <= MOST_RULES and all(is_rule(shape, rule) for rule in thing)


def check_table(shape, table):
    """Refuse what is no shape, then what is no table of it."""
    if not is_table(shape, table):
        raise NoTable("this is no table of the shape")


def meets(letter, match):
    """Tell whether a letter meets a match."""
    return all(wanted in (ANY, value) for wanted, value in zip(match, letter))


def changed(letter, change):
    """Tell the letter that a change makes of a letter."""
    return tuple(value if put == ANY else put for put, value in zip(change, letter))


def first_met(letter, rules):
    """Tell the place of the first of the rules whose match the letter meets, or None where there is none."""
    for place, rule in enumerate(rules):
        if meets(letter, rule[0]):
            return place
    return None


def becomes(letter, rules):
    """Tell the rising list of what a letter becomes by the rules."""
    place = first_met(letter, rules)
    if place is None:
        return []
    return sorted({changed(letter, change) for change in rules[place][1]})


def table_does(shape, table):
    """Tell, for each letter in turn, the rising list of what it becomes by the table."""
    check_table(shape, table)
    return [becomes(letter, table) for letter in letters_of(shape)]


def spare_rules(shape, table):
    """Tell the rising list of the places of rules without which, each by itself left out, the table does the same.

    Without a rule only those letters can become something else that came to it first; they go on to the rules behind.
    """
    check_table(shape, table)
    needed = {}
    for letter in letters_of(shape):
        place = first_met(letter, table)
        if place is not None and becomes(letter, table) != becomes(letter, table[place + 1:]):
            needed[place] = True
    return [place for place in range(len(table)) if place not in needed]


def table_of(shape, saying):
    """Tell a table that does what the saying does, with no rule to spare: a rule for each letter that becomes any."""
    lasts = does(shape, saying)
    return [(letter, changes) for letter, changes in zip(letters_of(shape), lasts) if changes]


def judge_table(shape, saying, thing):
    """Tell of anything whether it is a table that does what the saying does, with no rule to spare."""
    check_saying(shape, saying)
    if not is_table(shape, thing):
        return False
    return table_does(shape, thing) == does(shape, saying) and spare_rules(shape, thing) == []


def fields_in_turn(word, values):
    """Tell the saying that does is or put, as the word says, with each field in turn that has a value."""
    return in_turn("then", [(word, field, value) for field, value in enumerate(values) if value != ANY], ("yes",))


def saying_of(shape, table):
    """Tell the saying of a table; it is made from the last rule to the first one, as each holds those behind it."""
    check_table(shape, table)
    saying = ("no",)
    for match, changes in reversed(table):
        test = fields_in_turn("is", match)
        made = in_turn("either", [fields_in_turn("put", change) for change in changes], ("no",))
        saying = ("either", ("then", test, made), ("then", ("not", test), saying))
    return saying
