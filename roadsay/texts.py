"""Sayings written as texts, and read again."""

from roadsay.errors import NoText
from roadsay.letters import check_shape
from roadsay.reading import FIELD_SIGNS, parts_in, saying_from
from roadsay.sayings import check_saying, is_saying


def pieces_of(part):
    """Tell the list of what a part is written of: texts, and the sayings within it, which are still to be written."""
    word = part[0]
    if word == "is":
        return [f"{FIELD_SIGNS[part[1]]}={part[2]}"]
    if word == "put":
        return [f"{FIELD_SIGNS[part[1]]}:{part[2]}"]
    if word == "then":
        return ["(", part[1], ";", part[2], ")"]
    if word == "either":
        return ["(", part[1], "|", part[2], ")"]
    if word in ("not", "again"):
        return [word, "(", part[1], ")"]
    return [word]


def shown_saying(shape, saying):
    """Tell the text of a saying.

    Sayings that were told may lie deep, so what is still to be written waits in a list instead of in calls.
    """
    check_saying(shape, saying)
    written = []
    waiting = [saying]
    while waiting:
        piece = waiting.pop()
        if isinstance(piece, str):
            written.append(piece)
        else:
            waiting.extend(pieces_of(piece)[::-1])
    return "".join(written)


def read_saying(shape, text):
    """Tell the saying that a text writes."""
    check_shape(shape)
    if not isinstance(text, str):
        raise NoText("this is no text")
    saying = saying_from(parts_in(text, False), {})
    if not is_saying(shape, saying):
        raise NoText("what the text writes is no saying of the shape")
    return saying
