"""The forms of a corridor over some words. They are counted by the number of rooms alone."""

from callsheard.formlists import FormList, without
from callsheard.numbering import need_number
from callsheard.paths import is_ascending, lies_in


def form_counts(rooms, word_count):
    """The list of the numbers F(n) for n from 0 to the number of rooms."""
    counts = [1]
    inside = [1]
    for n in range(1, rooms + 1):
        with_a_word = sum([inside[g] * counts[n - 1 - g] for g in range(n)])
        counts.append(with_a_word * word_count)
        inside.append(with_a_word * (word_count - 1))
    return counts


def corridor_count(rooms, word_count):
    """The number of the forms of a corridor over so many words."""
    return form_counts(rooms, word_count)[rooms]


def corridor_form(rooms, words, k):
    """The form of a corridor over the words with the number k. Raises OutOfRange."""
    forms = CorridorForms(rooms, words)
    need_number(k, forms.total())
    return forms.form_at(k)


def corridor_rank(rooms, words, form):
    """The number of a form of a corridor over the words. Raises NotAForm."""
    return CorridorForms(rooms, words).number_of(form)


class CorridorForms(FormList):
    """The forms of a corridor over some words. Each part is a tuple of neighbouring rooms."""

    def __init__(self, rooms, words):
        FormList.__init__(self, rooms)
        self._words = list(words)
        self._counts = form_counts(rooms, len(words))

    def pieces_of(self, rooms):
        """The list of the pieces of a tuple of rooms."""
        found = []
        begin = 0
        for end in range(1, len(rooms) + 1):
            if end == len(rooms) or rooms[end] > rooms[end - 1] + 1:
                found.append(rooms[begin:end])
                begin = end
        return found

    def words_in(self, part):
        """The list of the words that the block of a part may have, in order."""
        return list(self._words)

    def ways_with(self, part, word):
        """The number of the blocks for a part with the word."""
        return self._counts[len(part)] // len(self._words)

    def may_be_tops(self, part, word, tops):
        """True if a block for a part with the word can have these tops."""
        return len(tops) > 0 and is_ascending(tops) and lies_in(tops, part)

    def ways_from(self, part, word, tops):
        """The number of the blocks for a part with the word of which the tops begin with these ones."""
        # Whatever comes behind these tops: in n rooms there, it can come in F(n) ways.
        before = [room for room in part if room < tops[-1]]
        behind = [room for room in part if room > tops[-1]]
        return self.ways_in(without(before, tops), word) * self._counts[len(behind)]

    def ways_to_end(self, part, word, tops):
        """The number of the blocks for a part with the word that have just these tops; there are none without tops."""
        return self.ways_in(without(part, tops), word) if tops else 0

    def tops_at(self, part, word, k):
        """The tops of the block with the number k, and its number among the blocks that have these tops."""
        # Tops that end come before those that go on, and those that go on with a lesser room come first.
        tops = ()
        for room in part:
            ways = self.ways_from(part, word, tops + (room,))
            if k >= ways:
                k -= ways
            else:
                tops = tops + (room,)
                ending = self.ways_to_end(part, word, tops)
                if k < ending:
                    break
                k -= ending
        return tops, k

    def ways_before(self, part, word, tops):
        """The number of the blocks for a part with the word that have lesser tops."""
        number = 0
        begun = ()
        for room in part[:part.index(tops[-1]) + 1]:
            if room in tops:
                number += self.ways_to_end(part, word, begun)
                begun = begun + (room,)
            else:
                number += self.ways_from(part, word, begun + (room,))
        return number
