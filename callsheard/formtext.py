"""Forms as texts."""

from callsheard.errors import BadText
from callsheard.logs import LETTERS, MOST_LETTERS

DIGITS = "0123456789"


def format_form(form):
    """The written form."""
    return " ".join([format_block(block) for block in form])


def format_block(block):
    """A block as a text."""
    word, tops, inner = block
    name = "-" if word is None else word
    rooms = ",".join([str(room) for room in tops])
    inside = f"({format_form(inner)})" if inner else ""
    return f"{name}[{rooms}]{inside}"


def parse_form(text):
    """The nested tuples of a written form. Raises BadText."""
    form, at = read_blocks(text, 0)
    if at < len(text):
        raise BadText(at)
    return form


# Each reader begins at a place of the text and returns what it read and the place behind it.
# It stops at the first character that cannot stand where it is. All that it has passed can
# be completed to a written form, so that place is the one that BadText tells.


def read_blocks(text, at):
    """Read blocks with single spaces between them."""
    block, at = read_block(text, at)
    found = [block]
    while text[at:at + 1] == " ":
        block, at = read_block(text, at + 1)
        found.append(block)
    return tuple(found), at


def read_block(text, at):
    """Read a block."""
    word, at = read_name(text, at)
    tops, at = read_tops(text, at)
    if text[at:at + 1] != "(":
        return (word, tops, ()), at
    inner, at = read_blocks(text, at + 1)
    return (word, tops, inner), past_sign(text, at, ")")


def read_name(text, at):
    """Read a word, or - for None."""
    if text[at:at + 1] == "-":
        return None, at + 1
    end = past_signs(text, at, LETTERS, MOST_LETTERS)
    return text[at:end], end


def read_tops(text, at):
    """Read numbers in square brackets."""
    number, at = read_number(text, past_sign(text, at, "["))
    numbers = [number]
    while text[at:at + 1] == ",":
        number, at = read_number(text, at + 1)
        numbers.append(number)
    return tuple(numbers), past_sign(text, at, "]")


def read_number(text, at):
    """Read a number of one or two digits without a leading zero."""
    end = at + 1 if text[at:at + 1] == "0" else past_signs(text, at, DIGITS, 2)
    return int(text[at:end]), end


def past_sign(text, at, sign):
    """The place behind a sign that must stand at a place."""
    if text[at:at + 1] != sign:
        raise BadText(at)
    return at + 1


def past_signs(text, at, signs, most):
    """The place behind the signs that stand from a place on: at least one, and no more than the most."""
    end = at
    while end < len(text) and end < at + most and text[end] in signs:
        end += 1
    if end == at:
        raise BadText(at)
    return end
