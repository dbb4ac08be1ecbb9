"""What a desk answers where it is asked of sayings, letters and numbers, written as texts."""

from roadsay.comings import come_to, nexts_by
from roadsay.least import least_machine, trail_count
from roadsay.pairs import parted_at, shared_at, within_at
from roadsay.texts import shown_saying
from roadsay.trails import trails_of


def shown_letter(letter):
    """Tell a letter written as its values without blanks."""
    return "".join(str(value) for value in letter)


def shown_trail(letters):
    """Tell a trail, or a row of letters, written with - between."""
    return "-".join(shown_letter(letter) for letter in letters)


def shown_all(words):
    """Tell words with one blank between, or none where there is no word."""
    return " ".join(words) if words else "none"


def shown_found(found, otherwise):
    """Tell a letter and a trail that were found, or what is answered otherwise where found is None."""
    if found is None:
        return otherwise
    letter, trail = found
    return f"{shown_letter(letter)} {shown_trail(trail)}"


def show_answer(shape, saying):
    """Answer the line show."""
    return shown_saying(shape, saying)


def do_answer(shape, saying, letter):
    """Answer the line do."""
    return shown_all([shown_letter(last) for last in nexts_by(shape, saying)[letter]])


def trails_answer(shape, saying, letter, most):
    """Answer the line trails."""
    return shown_all([shown_trail(trail) for trail in trails_of(shape, saying, letter, most)])


def count_answer(shape, saying, letter, many):
    """Answer the line count."""
    return str(trail_count(shape, saying, letter, many))


def rests_answer(shape, saying):
    """Answer the line rests."""
    starts, rows = least_machine(shape, saying)
    return str(len(rows))


def alike_answer(shape, one, other):
    """Answer the line alike."""
    return shown_found(parted_at(shape, one, other), "alike")


def within_answer(shape, one, other):
    """Answer the line within."""
    return shown_found(within_at(shape, one, other), "yes")


def apart_answer(shape, one, other):
    """Answer the line apart."""
    return shown_found(shared_at(shape, one, other), "yes")


def come_answer(shape, saying, start, goal):
    """Answer the line come."""
    word, letters = come_to(shape, saying, [start], [goal])
    return f"row {shown_trail(letters)}" if word == "row" else f"shut {len(letters)}"


# The lines that only ask, by their first words; none of them changes a desk.
ANSWERS = {
    "show": show_answer,
    "do": do_answer,
    "trails": trails_answer,
    "count": count_answer,
    "rests": rests_answer,
    "alike": alike_answer,
    "within": within_answer,
    "apart": apart_answer,
    "come": come_answer,
}


def answer_to(word, shape, values):
    """Answer a line that only asks: word is its first word, values are what its other words mean."""
    answer = ANSWERS[word]
    return answer(shape, *values)
