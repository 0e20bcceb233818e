"""The forms of a small house over some words: how many there are, and which one has which number."""

from callsheard.formlists import HouseForms
from callsheard.house import need_small
from callsheard.numbering import need_number


def forms_over(house, words):
    """The list of the forms of a small house over the words. Raises TooLarge."""
    need_small(house)
    return HouseForms(house, [list(words) for _ in range(house.rooms)])


def forms_with(house, room_words):
    """The list of the forms of a small house by which each room has its word, or None. Raises TooLarge."""
    need_small(house)
    return HouseForms(house, [[word] for word in room_words])


def count_forms(house, words):
    """The number of the forms over the words. Raises TooLarge."""
    return forms_over(house, words).total()


def kth_form(house, words, k):
    """The form over the words with the number k. Raises TooLarge, and OutOfRange."""
    forms = forms_over(house, words)
    need_number(k, forms.total())
    return forms.form_at(k)


def rank_form(house, words, form):
    """The number of a form over the words. Raises TooLarge, and NotAForm."""
    return forms_over(house, words).number_of(form)


def count_forms_with(house, room_words):
    """The number of the forms by which each room has its word, or None. Raises TooLarge."""
    return forms_with(house, room_words).total()


def walk_forms_with(house, room_words):
    """Yield the forms by which each room has its word, or None, in their order. Raises TooLarge."""
    forms = forms_with(house, room_words)
    for k in range(forms.total()):
        yield forms.form_at(k)
