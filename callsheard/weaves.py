"""Weaves: all the ways in which the calls of two houses that a door joins can follow each other."""

from callsheard.alike import alike
from callsheard.errors import BadWeave
from callsheard.forms import form_of
from callsheard.joining import join_houses, ladder
from callsheard.logs import last_calls
from callsheard.numbering import need_number


class Joint:
    """Two houses with a log each, joined by a door from a room of the first one to a room of the second one."""

    def __init__(self, first_house, first_log, second_house, second_log, door):
        self._house = join_houses(first_house, second_house, door)
        moved = first_house.rooms
        self._calls = {
            "a": last_calls(first_log),
            "b": [(room + moved, word) for room, word in last_calls(second_log)],
        }
        self._heard = {
            "a": ladder(first_house, first_log, door[0]),
            "b": [(room + moved, word) for room, word in ladder(second_house, second_log, door[1])],
        }
        self._patterns = all_patterns(words_called(self._heard["a"]), words_called(self._heard["b"]))

    def joined_house(self):
        """The joined house."""
        return self._house

    def woven_log(self, weave):
        """The woven log. Raises BadWeave."""
        self.check_weave(weave)
        return [self._calls[letter][weave[:at].count(letter)] for at, letter in enumerate(weave)]

    def check_weave(self, weave):
        """Raise BadWeave if the string is not a weave of the two logs."""
        if sorted(weave) != ["a"] * len(self._calls["a"]) + ["b"] * len(self._calls["b"]):
            raise BadWeave()

    def woven_form(self, weave):
        """The form of the woven log. Raises BadWeave."""
        return form_of(self._house, self.woven_log(weave))

    def pattern(self, weave):
        """The pattern of the weave, a string. Raises BadWeave."""
        left = []
        for letter, call in zip(weave, self.woven_log(weave)):
            if call in self._heard[letter]:
                left.append((letter, call[1]))
        return "".join([letter for letter, _ in exchanged(left)])

    def alike_weaves(self, first, second):
        """True if the two woven logs are alike in the joined house. Raises BadWeave."""
        return alike(self._house, self.woven_log(first), self.woven_log(second))

    def pattern_count(self):
        """The number of the patterns."""
        return len(self._patterns)

    def weave_at(self, k):
        """The plain weave of the pattern with the number k. Raises OutOfRange."""
        need_number(k, len(self._patterns))
        waiting = {letter: list(calls) for letter, calls in self._calls.items()}
        weave = ""
        for letter in self._patterns[k]:
            at_door = False
            while not at_door:
                at_door = waiting[letter].pop(0) in self._heard[letter]
                weave += letter
        return weave + "a" * len(waiting["a"]) + "b" * len(waiting["b"])

    def rank_of(self, weave):
        """The number of the pattern of the weave. Raises BadWeave."""
        return self._patterns.index(self.pattern(weave))


def words_called(calls):
    """The list of the words of some calls."""
    return [word for _, word in calls]


def exchanged(letters):
    """Pairs of a letter and a word, after every b stands behind each a of the same word that it stood before."""
    letters = list(letters)
    k = first_exchange(letters)
    while k is not None:
        letters[k], letters[k + 1] = letters[k + 1], letters[k]
        k = first_exchange(letters)
    return letters


def first_exchange(letters):
    """The least index of a b directly before an a with the same word, or None."""
    for k in range(len(letters) - 1):
        if letters[k][0] > letters[k + 1][0] and letters[k][1] == letters[k + 1][1]:
            return k
    return None


def all_patterns(a_words, b_words):
    """The ascending list of the strings with a letter for each word and no b directly before an a of the same word."""
    # At most 924 strings: six letters of each kind.
    grown = [""]
    for _ in range(len(a_words) + len(b_words)):
        grown = [text + letter for text in grown for letter in "ab" if may_go_on(text, letter, a_words, b_words)]
    return grown


def may_go_on(text, letter, a_words, b_words):
    """True if the letter may follow the beginning of a pattern."""
    a_count = text.count("a")
    b_count = text.count("b")
    if letter == "b":
        return b_count < len(b_words)
    if a_count == len(a_words):
        return False
    return not text.endswith("b") or b_words[b_count - 1] != a_words[a_count]
