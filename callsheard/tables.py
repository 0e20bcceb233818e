"""Tables: the words of all parts of a small house, and which tables come from a log."""

from callsheard.errors import NoLog
from callsheard.forms import build_form, plain_log
from callsheard.house import need_small
from callsheard.logs import word_of
from callsheard.paths import all_parts, lies_in


def table_of(house, log):
    """The table of a log in a small house, a list."""
    return [(part, word_of(log, part)) for part in all_parts(house)]


def keepers(table, part):
    """The ascending tuple of the keepers of a part in a table."""
    return tuple([room for room in sorted(part) if first_lesser(table, part, room) is None])


def first_lesser(table, part, room):
    """The first part in the table that lies in the part, holds the room and has another word, or None."""
    words = dict(table)
    word = words[tuple(sorted(part))]
    for lesser, other in table:
        if other != word and room in lesser and lies_in(lesser, part):
            return lesser
    return None


def table_answer(house, table):
    """The answer about a table of a small house, a tuple."""
    need_small(house)
    part = first_wrong_silence(table)
    if part is not None:
        return ("silence", part)
    for part, word in table:
        if word is not None and not keepers(table, part):
            return ("no keeper", part, tuple([first_lesser(table, part, room) for room in part]))
    return ("log", plain_log(form_by_table(house, table)))


def first_wrong_silence(table):
    """The first part that is silent though not all its rooms are, or the other way round, or None."""
    words = dict(table)
    for part, word in table:
        if (word is None) != all([words[(room,)] is None for room in part]):
            return part
    return None


def form_by_table(house, table):
    """The form with the words and keepers of the table of a log."""
    words = dict(table)

    def word_in(part):
        return words[part]

    def tops_in(part):
        return keepers(table, part)

    return build_form(house, word_in, tops_in)


def form_of_table(house, table):
    """The form of the logs of a table of a small house. Raises NoLog with the part that shows that there is none."""
    answer = table_answer(house, table)
    if answer[0] != "log":
        raise NoLog(answer[1])
    return form_by_table(house, table)


def check_no_keeper(table, part, lesser):
    """True if the tuple of parts shows, room by room, that the part has no keeper in the table."""
    words = dict(table)
    rooms = sorted(part)
    if len(lesser) != len(rooms):
        return False
    return all([is_lesser(words, rooms, room, entry) for room, entry in zip(rooms, lesser)])


def is_lesser(words, rooms, room, entry):
    """True if the entry is a part with a word that lies in the rooms, holds the room and has another word."""
    return entry in words and room in entry and lies_in(entry, rooms) and words[entry] != words[tuple(rooms)]
