"""The orders that keep a form: how many there are, and which one has which number."""

from callsheard.arranging import Arranger
from callsheard.errors import NotAnOrder
from callsheard.forced import forced_pairs, keeps_form
from callsheard.forms import called_by_form
from callsheard.house import need_small
from callsheard.numbering import need_number


def form_arranger(house, form):
    """The Arranger of the orders that keep a form."""
    return Arranger(called_by_form(form), forced_pairs(house, form), [])


def count_orders(house, form):
    """The number of the orders that keep the form."""
    return form_arranger(house, form).total()


def kth_order(house, form, k):
    """The order with the number k, a tuple. Raises OutOfRange."""
    arranger = form_arranger(house, form)
    need_number(k, arranger.total())
    return arranger.order_at(k)


def rank_of_order(house, form, order):
    """The number of an order that keeps the form. Raises NotAnOrder."""
    if not keeps_form(house, form, order):
        raise NotAnOrder()
    return form_arranger(house, form).number_of(order)


def walk_orders(house, form):
    """Yield the orders that keep the form of a small house, in their order."""
    need_small(house)
    arranger = form_arranger(house, form)
    for k in range(arranger.total()):
        yield arranger.order_at(k)
