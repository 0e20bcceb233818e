"""Facts: a log with at most one call in each room, of which the order is known in part."""

from callsheard.arranging import Arranger, obeys_pairs
from callsheard.errors import BadFact, Impossible
from callsheard.logs import called_rooms, is_word, log_of, word_of
from callsheard.numbering import need_number
from callsheard.paths import is_ascending, lies_in

MOST_FACT_ROOMS = 8


class Facts:
    """The words of the rooms, pairs of calls in their order, and words of sets of rooms."""

    def __init__(self, words, pairs, heard):
        check_words(words)
        check_pairs(words, pairs)
        check_heard(words, heard)
        self._words = list(words)
        self._pairs = list(pairs)
        self._heard = list(heard)

    def words(self):
        """The list of the words of the rooms, or None."""
        return list(self._words)

    def pairs(self):
        """The list of the pairs."""
        return list(self._pairs)

    def heard(self):
        """The list of the heard entries."""
        return list(self._heard)

    def called(self):
        """The ascending list of the called rooms."""
        return called_rooms(self._words)

    def with_pair(self, before, after):
        """New facts with a further pair. Raises BadFact."""
        return Facts(self._words, self._pairs + [(before, after)], self._heard)

    def with_heard(self, rooms, word):
        """New facts with a further heard entry. Raises BadFact."""
        return Facts(self._words, self._pairs, self._heard + [(rooms, word)])


def check_words(words):
    """Raise BadFact if there are too few or too many rooms, or at the first entry that is no word and not None."""
    if not 1 <= len(words) <= MOST_FACT_ROOMS:
        raise BadFact("words", -1)
    for place, word in enumerate(words):
        if not is_word_or_none(word):
            raise BadFact("words", place)


def check_pairs(words, pairs):
    """Raise BadFact at the first pair that is not one of different called rooms."""
    called = called_rooms(words)
    for place, (before, after) in enumerate(pairs):
        if before == after or before not in called or after not in called:
            raise BadFact("pairs", place)


def check_heard(words, heard):
    """Raise BadFact at the first entry without an ascending tuple of rooms, or with what is no word and not None."""
    every = list(range(len(words)))
    for place, (rooms, word) in enumerate(heard):
        if not rooms or not is_ascending(rooms) or not lies_in(rooms, every) or not is_word_or_none(word):
            raise BadFact("heard", place)


def is_word_or_none(word):
    """True if the string is a word, and for None."""
    return word is None or is_word(word)


def order_fits(facts, order):
    """True if the tuple of integers is an order of the facts and fits."""
    if sorted(order) != facts.called() or not obeys_pairs(order, facts.pairs()):
        return False
    log = log_of(facts.words(), order)
    return all([word_of(log, rooms) == word for rooms, word in facts.heard()])


def held_back(facts, room, rooms):
    """The reason why a room is not free in a set of called rooms that holds it, or None if it is free."""
    later = [after for before, after in facts.pairs() if before == room and after in rooms]
    if later:
        return ("pair", min(later))
    words = facts.words()
    for index, (members, word) in enumerate(facts.heard()):
        if room in members and word != words[room] and lies_in(called_among(words, members), rooms):
            return ("heard", index)
    return None


def called_among(words, rooms):
    """The list of those of the rooms that have a word."""
    return [room for room in rooms if words[room] is not None]


def free_rooms(facts, rooms):
    """The list of the rooms that are free in a set of called rooms."""
    return [room for room in rooms if held_back(facts, room, rooms) is None]


def is_stuck(facts, rooms):
    """True if the set of called rooms is a stuck set."""
    return len(rooms) > 0 and not free_rooms(facts, rooms)


def wrong_silence(facts):
    """The least index of a heard entry that is silent though a room is called, or the other way round, or None."""
    words = facts.words()
    for index, (rooms, word) in enumerate(facts.heard()):
        if (word is None) != (not called_among(words, rooms)):
            return index
    return None


def fitting_answer(facts):
    """The answer about facts: an order that fits, or why there is none; a tuple."""
    index = wrong_silence(facts)
    if index is not None:
        return ("silence", index)
    left = facts.called()
    order = ()
    free = free_rooms(facts, left)
    while free:
        order = (free[-1],) + order
        left.remove(free[-1])
        free = free_rooms(facts, left)
    if left:
        return ("stuck", tuple(left), tuple([held_back(facts, room, left) for room in left]))
    return ("order", order)


def some_fits(facts):
    """True if some order fits the facts."""
    return fitting_answer(facts)[0] == "order"


def fitting_order(facts):
    """The order that the answer about facts gives. Raises Impossible if no order fits."""
    answer = fitting_answer(facts)
    if answer[0] != "order":
        raise Impossible()
    return answer[1]


def facts_arranger(facts):
    """The Arranger of the orders that fit, if no heard entry is wrong about silence."""
    words = facts.words()
    groups = []
    for rooms, word in facts.heard():
        members = called_among(words, rooms)
        groups.append((members, [room for room in members if words[room] == word]))
    return Arranger(facts.called(), facts.pairs(), groups)


def count_fitting(facts):
    """The number of the orders that fit."""
    if wrong_silence(facts) is not None:
        return 0
    return facts_arranger(facts).total()


def kth_fitting(facts, k):
    """The order that fits with the number k, a tuple. Raises OutOfRange."""
    need_number(k, count_fitting(facts))
    return facts_arranger(facts).order_at(k)
