"""How far two orders of the same rooms are from each other, and the steps from one to the other."""

from callsheard.orders import walk_orders


def goal_places(first, second):
    """The list of the places that the rooms of the first order have in the second one."""
    return [second.index(room) for room in first]


def pairs_apart(first, second):
    """How many pairs of rooms stand in unlike orders in the two orders."""
    places = goal_places(first, second)
    return sum([1 for at, place in enumerate(places) for later in places[at + 1:] if later < place])


def exchanges(first, second):
    """The list of the indexes at which neighbours are exchanged, from the first order to the second one."""
    places = goal_places(first, second)
    indexes = []
    k = first_descent(places)
    while k is not None:
        places[k], places[k + 1] = places[k + 1], places[k]
        indexes.append(k)
        k = first_descent(places)
    return indexes


def first_descent(numbers):
    """The least index of a number that is greater than the next one, or None."""
    for k in range(len(numbers) - 1):
        if numbers[k] > numbers[k + 1]:
            return k
    return None


def nearest_order(house, form, order):
    """The pair of the number of pairs apart and the nearest order that keeps the form. Raises TooLarge."""
    return min([(pairs_apart(order, other), other) for other in walk_orders(house, form)])
