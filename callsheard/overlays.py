"""Overlays: forms of one house put over each other."""

from callsheard.alike import parting_path
from callsheard.forms import called_by_form, form_of, plain_log
from callsheard.paths import lies_in


def overlay(house, *forms):
    """The overlay of any number of forms, the earliest one first."""
    log = []
    for form in forms:
        log.extend(plain_log(form))
    return form_of(house, log)


def hides(house, first, second):
    """True if the second form hides the first one, whatever doors the house has."""
    return lies_in(called_by_form(first), called_by_form(second))


def order_matters(house, first, second):
    """The first path that parts one order of the two forms from the other order, or None."""
    early = plain_log(first)
    late = plain_log(second)
    return parting_path(house, early + late, late + early)
