"""Logs: lists of calls (room, word), the earliest first."""

LETTERS = "abcdefghijklmnopqrstuvwxyz"
MOST_LETTERS = 8


def is_word(text):
    """True if the string is a word."""
    return 1 <= len(text) <= MOST_LETTERS and all(letter in LETTERS for letter in text)


def last_calls(log):
    """The list of the calls after which no call in the same room follows."""
    called = set()
    backwards = []
    for room, word in reversed(log):
        if room not in called:
            called.add(room)
            backwards.append((room, word))
    return backwards[::-1]


def order_of(log):
    """The tuple of the rooms of the last calls, in their order."""
    return tuple([room for room, _ in last_calls(log)])


def words_of(house, log):
    """A list with the word of the last call in each room, or None."""
    words = [None] * house.rooms
    for room, word in log:
        words[room] = word
    return words


def last_call_in(log, rooms):
    """The last call in any of the rooms, or None."""
    for call in reversed(log):
        if call[0] in rooms:
            return call
    return None


def top_room(log, rooms):
    """The room of the last call in any of the rooms, or None."""
    call = last_call_in(log, rooms)
    return None if call is None else call[0]


def word_of(log, rooms):
    """The word of the last call in any of the rooms, or None."""
    call = last_call_in(log, rooms)
    return None if call is None else call[1]


def log_of(words, order):
    """The list of one call in each room of the order, with the room's word."""
    return [(room, words[room]) for room in order]


def called_rooms(words):
    """The ascending list of the rooms that have a word in a list with a word or None for each room."""
    return [room for room, word in enumerate(words) if word is not None]


def listed_words(words):
    """Words and None in their order, each of them once."""
    silence = [None] if None in words else []
    return silence + sorted({word for word in words if word is not None})
