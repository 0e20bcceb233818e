"""Forms: what all logs that are alike have in common, as nested blocks (word, tops, inner)."""

from callsheard.logs import called_rooms, is_word, last_calls, top_room, word_of
from callsheard.paths import is_ascending, lies_in, pieces


def form_of(house, log):
    """The form of the house under the log, a tuple of blocks."""
    calls = last_calls(log)

    def word_in(part):
        return word_of(calls, part)

    def tops_in(part):
        return tuple(sorted(called_keepers(house, calls, part)))

    return build_form(house, word_in, tops_in)


def called_keepers(house, calls, part):
    """The list of the keepers of a part that has a called room."""
    top = top_room(calls, part)
    found = [top]
    for piece in pieces(house, [room for room in part if room != top]):
        # A room taken out with another word spoils all rooms that are taken out after it.
        if word_of(calls, piece) == word_of(calls, part):
            found.extend(called_keepers(house, calls, piece))
    return found


def build_form(house, word_in, tops_in):
    """The form in which functions give the word of each part, and the keepers of each part with a word."""

    def build_blocks(rooms):
        return tuple([build_block(piece) for piece in pieces(house, rooms)])

    def build_block(part):
        word = word_in(part)
        if word is None:
            return (None, part, ())
        tops = tops_in(part)
        return (word, tops, build_blocks([room for room in part if room not in tops]))

    return build_blocks(list(range(house.rooms)))


def silent_form(house):
    """The form of the empty log."""
    return form_of(house, [])


def block_rooms(block):
    """The rooms of a block, an ascending tuple."""
    return tuple(sorted([room for _, tops, _ in blocks((block,)) for room in tops]))


def blocks(form):
    """The list of all blocks of a form, each one followed by the blocks inside it."""
    found = []
    for block in form:
        found.append(block)
        found.extend(blocks(block[2]))
    return found


def words_by_form(form):
    """A list with the word of each room by the form, or None."""
    words = {room: word for word, tops, _ in blocks(form) for room in tops}
    return [words[room] for room in sorted(words)]


def called_by_form(form):
    """The ascending list of the rooms that are called by the form."""
    return called_rooms(words_by_form(form))


def word_by_form(form, part):
    """The word of a part of the house by the form, or None."""
    block = smallest_block(form, part)
    return block[0]


def smallest_block(form, rooms):
    """The smallest block of a form that holds all the rooms, or None if no block does."""
    smallest = None
    # Each block comes before the blocks inside it, so the last one that holds the rooms is the smallest.
    for block in blocks(form):
        if lies_in(rooms, block_rooms(block)):
            smallest = block
    return smallest


def plain_log(form):
    """The plain log of a form, a list."""
    calls = []
    for word, tops, inner in form:
        if word is not None:
            calls.extend(plain_log(inner))
            calls.extend([(room, word) for room in tops])
    return calls


def is_form(house, form):
    """True if the tuple of blocks is the form of the house under some log."""
    return are_blocks_of(house, form, list(range(house.rooms)))


def are_blocks_of(house, form, rooms):
    """True if the blocks are, in order, right for the pieces of a set of rooms."""
    parts = pieces(house, rooms)
    return len(form) == len(parts) and all([is_block_of(house, block, part) for block, part in zip(form, parts)])


def is_block_of(house, block, part):
    """True if the block is right for a part: the block's rooms are the part, and no rule is broken in it."""
    word, tops, inner = block
    if not tops or not is_ascending(tops) or not lies_in(tops, part):
        return False
    if word is None:
        return tops == part and not inner
    if not is_word(word) or word in [other[0] for other in inner]:
        return False
    return are_blocks_of(house, inner, [room for room in part if room not in tops])
