"""Lists of forms: the forms that give the rooms certain words, counted and numbered without making each of them."""

from callsheard.errors import NotAForm
from callsheard.logs import listed_words
from callsheard.numbering import joined_number, multiplied, split_number
from callsheard.paths import pieces

# The outer word of the outermost blocks. It is not a word, so it bars no block.
NO_OUTER = ""


class FormList:
    """Forms in ascending order of the nested tuples.

    The outer word is the word of the block around a part; the block of the part does not have it.
    A class below this one tells of what the forms are made. It has the methods that this one only calls:
    pieces_of, words_in and ways_with, and for the tops of blocks may_be_tops, tops_at and ways_before.
    """

    def __init__(self, rooms):
        self._every = tuple(range(rooms))

    def total(self):
        """The number of the forms."""
        return self.ways_in(self._every, NO_OUTER)

    def form_at(self, k):
        """The form with the number k, which is below the total."""
        return self.blocks_at(self._every, NO_OUTER, k)

    def number_of(self, form):
        """The number of a form. Raises NotAForm if it is not in the list."""
        return self.number_of_blocks(self._every, NO_OUTER, form)

    def words_inside(self, part, outer):
        """The list of the words that the block of a part may have inside another block, in order."""
        return [word for word in self.words_in(part) if word != outer]

    def counts_in(self, rooms, outer):
        """The list of the numbers of the blocks for each piece of a tuple of rooms."""
        return [
            sum([self.ways_with(part, word) for word in self.words_inside(part, outer)])
            for part in self.pieces_of(rooms)
        ]

    def ways_in(self, rooms, outer):
        """The number of the tuples of blocks for a tuple of rooms."""
        return multiplied(self.counts_in(rooms, outer))

    def blocks_at(self, rooms, outer, k):
        """The tuple of blocks with the number k for a tuple of rooms."""
        numbers = split_number(k, self.counts_in(rooms, outer))
        return tuple([self.block_at(part, outer, number) for part, number in zip(self.pieces_of(rooms), numbers)])

    def block_at(self, part, outer, k):
        """The block with the number k for a part."""
        words = self.words_inside(part, outer)
        at = 0
        while k >= self.ways_with(part, words[at]):
            k -= self.ways_with(part, words[at])
            at += 1
        tops, k = self.tops_at(part, words[at], k)
        return (words[at], tops, self.blocks_at(without(part, tops), words[at], k))

    def number_of_blocks(self, rooms, outer, blocks):
        """The number of a tuple of blocks for a tuple of rooms. Raises NotAForm."""
        parts = self.pieces_of(rooms)
        if len(blocks) != len(parts):
            raise NotAForm()
        numbers = [self.number_of_block(part, outer, block) for part, block in zip(parts, blocks)]
        return joined_number(numbers, self.counts_in(rooms, outer))

    def number_of_block(self, part, outer, block):
        """The number of a block for a part. Raises NotAForm."""
        word, tops, inner = block
        words = self.words_inside(part, outer)
        if word not in words or not self.may_be_tops(part, word, tops):
            raise NotAForm()
        number = sum([self.ways_with(part, lesser) for lesser in words[:words.index(word)]])
        number += self.ways_before(part, word, tops)
        return number + self.number_of_blocks(without(part, tops), word, inner)


class HouseForms(FormList):
    """The forms of a house by which each room has one of its words.

    choices has for each room the list of its words, or [None] if it is not called.
    """

    def __init__(self, house, choices):
        FormList.__init__(self, house.rooms)
        self._house = house
        self._choices = choices
        self._pieces = {}
        self._ways = {}

    def pieces_of(self, rooms):
        """The list of the pieces of a tuple of rooms."""
        if rooms not in self._pieces:
            self._pieces[rooms] = pieces(self._house, rooms)
        return self._pieces[rooms]

    def words_in(self, part):
        """The list of the words that the block of a part may have, in order."""
        words = listed_words([word for room in part for word in self._choices[room]])
        return [word for word in words if word is not None or words == [None]]

    def ways_with(self, part, word):
        """The number of the blocks for a part with the word."""
        if (part, word) not in self._ways:
            choices = self.choices_of_tops(part, word)
            self._ways[part, word] = sum([self.ways_in(without(part, tops), word) for tops in choices])
        return self._ways[part, word]

    def choices_of_tops(self, part, word):
        """The ascending list of the nonempty sets of rooms of a part that may have the word.

        The tops of each block with the word are one of them. A set that leaves a piece which can have no other
        word is the tops of no block; ways_in counts 0 for it.
        """
        return ascending_subsets([room for room in part if word in self._choices[room]])

    def may_be_tops(self, part, word, tops):
        """True if a block for a part with the word can have these tops."""
        return tops in self.choices_of_tops(part, word)

    def tops_at(self, part, word, k):
        """The tops of the block with the number k, and its number among the blocks that have these tops."""
        choices = self.choices_of_tops(part, word)
        at = 0
        while k >= self.ways_in(without(part, choices[at]), word):
            k -= self.ways_in(without(part, choices[at]), word)
            at += 1
        return choices[at], k

    def ways_before(self, part, word, tops):
        """The number of the blocks for a part with the word that have lesser tops."""
        choices = self.choices_of_tops(part, word)
        return sum([self.ways_in(without(part, lesser), word) for lesser in choices[:choices.index(tops)]])


def without(part, tops):
    """The tuple of the rooms of a part that are not among its tops."""
    return tuple([room for room in part if room not in tops])


def ascending_subsets(rooms):
    """The list of the nonempty subsets of an ascending list of rooms, as tuples, in ascending order."""
    subsets = []
    for at, room in enumerate(rooms):
        subsets.append((room,))
        subsets.extend([(room,) + more for more in ascending_subsets(rooms[at + 1:])])
    return subsets
