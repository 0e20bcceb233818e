"""Orders of rooms under rules: how many there are, and which one has which number."""


class Arranger:
    """The orders of some rooms that obey all pairs and groups, in ascending order of the tuples.

    A pair (a, b) wants a before b. A group is a pair of lists of rooms, of which the first one holds the
    second one: the last room of the first list in the order must belong to the second list.
    """

    # A set of rooms is an integer here, with one bit for each room: there are thousands of sets to look up.

    def __init__(self, rooms, pairs, groups):
        self._rooms = sorted(rooms)
        self._before = {room: room_bits([a for a, b in pairs if b == room]) for room in self._rooms}
        self._groups = [(room_bits(members), room_bits(enders)) for members, enders in groups]
        self._ways = {room_bits(self._rooms): 1}

    def total(self):
        """The number of the orders."""
        return self.ways_after(0)

    def order_at(self, k):
        """The order with the number k, which is below the total."""
        return self.order_after(0, k)

    def number_of(self, order):
        """The number of an order that obeys all rules."""
        number = 0
        placed = 0
        for room in order:
            lesser = [other for other in self.next_rooms(placed) if other < room]
            number += sum([self.ways_after(placed | 1 << other) for other in lesser])
            placed = placed | 1 << room
        return number

    def ways_after(self, placed):
        """In how many ways an order can go on after the set of placed rooms."""
        if placed not in self._ways:
            self._ways[placed] = sum([self.ways_after(placed | 1 << room) for room in self.next_rooms(placed)])
        return self._ways[placed]

    def order_after(self, placed, k):
        """What comes after the set of placed rooms in the order that is number k of those that begin with it."""
        for room in self.next_rooms(placed):
            ways = self.ways_after(placed | 1 << room)
            if k < ways:
                return (room,) + self.order_after(placed | 1 << room, k)
            k -= ways
        return ()

    def next_rooms(self, placed):
        """The ascending list of the rooms that may come next after the set of placed rooms."""
        return [room for room in self._rooms if self.may_follow(placed, room)]

    def may_follow(self, placed, room):
        """True if the room may come next after the set of placed rooms."""
        bit = 1 << room
        if placed & bit or self._before[room] & ~placed:
            return False
        for members, enders in self._groups:
            ends_group = members & bit and not members & ~(placed | bit)
            if ends_group and not enders & bit:
                return False
        return True


def room_bits(rooms):
    """A set of rooms as an integer, with one bit for each room."""
    bits = 0
    for room in rooms:
        bits = bits | 1 << room
    return bits


def obeys_pairs(order, pairs):
    """True if the order has a before b for each pair (a, b)."""
    return all(order.index(a) < order.index(b) for a, b in pairs)


def linked_rooms(pairs, start):
    """The ascending list of the rooms to which a chain of one or more pairs leads from the start."""
    found = []
    waiting = [start]
    while waiting:
        room = waiting.pop()
        for before, after in pairs:
            if before == room and after not in found:
                found.append(after)
                waiting.append(after)
    return sorted(found)
