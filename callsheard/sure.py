"""What is sure of all orders that fit facts."""

from callsheard.facts import fitting_order, some_fits
from callsheard.forced import forced_pairs
from callsheard.forms import form_of
from callsheard.logs import listed_words, log_of

# The order that fits is worked out first of all, since that raises Impossible if there is none.


def before_answer(facts, x, y):
    """How the calls in two different called rooms stand to each other: "before", "after" or "open"."""
    fitting_order(facts)
    if not some_fits(facts.with_pair(y, x)):
        return "before"
    if not some_fits(facts.with_pair(x, y)):
        return "after"
    return "open"


def possible_words(facts, rooms):
    """The list of the words of a nonempty set of rooms under the orders that fit."""
    fitting_order(facts)
    words = facts.words()
    return [
        word for word in listed_words([words[room] for room in rooms])
        if some_fits(heard_too(facts, rooms, word))
    ]


def heard_too(facts, rooms, word):
    """New facts, in which the set of rooms in any order is heard with the word, too."""
    return facts.with_heard(tuple(sorted(rooms)), word)


def word_answer(facts, rooms):
    """The answer about the word of a nonempty set of rooms, a tuple."""
    words = possible_words(facts, rooms)
    if len(words) == 1:
        return ("sure", words[0])
    first, second = [fitting_order(heard_too(facts, rooms, word)) for word in words[:2]]
    return ("open", first, second)


def form_answer(house, facts):
    """The answer about the form of a house with as many rooms as the facts, a tuple."""
    first = fitting_order(facts)
    form = form_of(house, log_of(facts.words(), first))
    for z, x in forced_pairs(house, form):
        turned = facts.with_pair(x, z)
        if some_fits(turned):
            return ("open", first, fitting_order(turned))
    return ("form", form)
