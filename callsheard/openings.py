"""The openings of a small house that fit the known doors and the looks: how many, and what most of them say."""

from math import gcd

from callsheard.errors import Impossible
from callsheard.hearing import all_openings, hear
from callsheard.house import need_small
from callsheard.logs import listed_words
from callsheard.looks import opening_fits
from callsheard.numbering import need_number


def fitting_openings(house, log, looks, opened, shut):
    """The list of the openings that fit, in their order. Raises TooLarge."""
    need_small(house)
    return [
        opening for opening in all_openings(house)
        if opening_fits(house, log, looks, opening, opened=opened, shut=shut)
    ]


def possible_openings(house, log, looks, opened, shut):
    """The list of the openings that fit, in their order. Raises TooLarge, and Impossible if there are none."""
    openings = fitting_openings(house, log, looks, opened, shut)
    if not openings:
        raise Impossible()
    return openings


def count_openings(house, log, looks, *, opened=(), shut=()):
    """The number of the openings that fit. Raises TooLarge."""
    return len(fitting_openings(house, log, looks, opened, shut))


def kth_opening(house, log, looks, k, *, opened=(), shut=()):
    """The opening that fits with the number k. Raises TooLarge, and OutOfRange."""
    openings = fitting_openings(house, log, looks, opened, shut)
    need_number(k, len(openings))
    return openings[k]


def count_holding(openings, door):
    """The number of those of the openings that hold the door."""
    return len([opening for opening in openings if door in opening])


def chance_open(house, log, looks, door, *, opened=(), shut=()):
    """The chance that the door is open, in lowest terms. Raises TooLarge and Impossible."""
    openings = possible_openings(house, log, looks, opened, shut)
    holding = count_holding(openings, door)
    common = gcd(holding, len(openings))
    return (holding // common, len(openings) // common)


def best_question(house, log, looks, *, opened=(), shut=()):
    """The free door that leaves the fewest openings at the worst, or None. Raises TooLarge and Impossible."""
    openings = possible_openings(house, log, looks, opened, shut)
    questions = []
    for door in house.doors():
        holding = count_holding(openings, door)
        if 0 < holding < len(openings):
            questions.append((max(holding, len(openings) - holding), door))
    return min(questions)[1] if questions else None


def word_counts(house, log, looks, room, *, opened=(), shut=()):
    """The list of the pairs of a word that the room may keep and its number of openings. Raises as the others do."""
    openings = possible_openings(house, log, looks, opened, shut)
    kept = [hear(house, log, opening)[room] for opening in openings]
    return [(word, kept.count(word)) for word in listed_words(kept)]


def room_now(house, log, looks, room, *, opened=(), shut=()):
    """The answer about the word that a room keeps, a tuple. Raises TooLarge and Impossible."""
    openings = possible_openings(house, log, looks, opened, shut)
    kept = [hear(house, log, opening)[room] for opening in openings]
    for opening, word in zip(openings, kept):
        if word != kept[0]:
            return ("open", openings[0], opening)
    return ("sure", kept[0])
