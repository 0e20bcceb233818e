"""What the tests share: houses and logs to try, and answers worked out from the definitions alone."""

import copy
import itertools
import random

from callsheard.house import House

WORDS = ["bell", "drum", "horn"]


# Houses and logs to try


def every_house(rooms):
    """Each house with that many rooms."""
    doors = list(itertools.combinations(range(rooms), 2))
    for count in range(len(doors) + 1):
        for chosen in itertools.combinations(doors, count):
            yield House(rooms, list(chosen))


def some_houses(seed, rooms, count):
    """Houses with that many rooms, the same ones for each seed."""
    dice = random.Random(seed)
    doors = list(itertools.combinations(range(rooms), 2))
    for _ in range(count):
        chance = dice.choice([0.3, 0.5, 0.8])
        yield House(rooms, [door for door in doors if dice.random() < chance])


def a_log(dice, rooms, calls, words=None):
    """A log with that many calls in any rooms."""
    words = WORDS if words is None else words
    return [(dice.randrange(rooms), dice.choice(words)) for _ in range(calls)]


def two_logs(dice, rooms, words=None):
    """Two logs, mostly of the same rooms with the same last words, since others are easily told apart."""
    words = WORDS if words is None else words
    first = a_log(dice, rooms, dice.randrange(2 * rooms + 2), words)
    kind = dice.randrange(6)
    if kind == 0:
        return first, a_log(dice, rooms, dice.randrange(2 * rooms + 2), words)
    second = by_definition_last_calls(first)
    if kind == 1:
        dice.shuffle(second)
    else:
        for _ in range(kind - 1):
            if len(second) > 1:
                at = dice.randrange(len(second) - 1)
                second[at], second[at + 1] = second[at + 1], second[at]
    return first, second


def trials(seed):
    """Small houses with two logs each."""
    dice = random.Random(seed)
    houses = itertools.chain(every_house(1), every_house(2), every_house(3), some_houses(seed, 4, 60))
    for house in itertools.chain(houses, some_houses(seed + 1, 5, 40)):
        for _ in range(6):
            first, second = two_logs(dice, house.rooms)
            yield house, first, second


def by_definition_last_calls(log):
    return [call for place, call in enumerate(log) if all(later[0] != call[0] for later in log[place + 1:])]


# Answers from the definitions


def door_set(house):
    return set(house.doors())


def subsets(things):
    things = list(things)
    for count in range(len(things) + 1):
        yield from itertools.combinations(things, count)


def paths_of(house, inside=None):
    """Each path of a house (inside a set of rooms), the first ones first."""
    doors = door_set(house)
    rooms = range(house.rooms) if inside is None else inside
    found = []
    grown = [(room,) for room in rooms]
    while grown:
        found.extend(grown)
        grown = [
            path + (room,) for path in grown for room in rooms
            if room not in path and (min(path[-1], room), max(path[-1], room)) in doors
        ]
    return sorted(found, key=lambda path: (len(path), path))


def one_way_paths_of(house):
    doors = set(house.doors())
    found = []
    grown = [(room,) for room in range(house.rooms)]
    while grown:
        found.extend(grown)
        grown = [
            path + (room,) for path in grown for room in range(house.rooms)
            if room not in path and (path[-1], room) in doors
        ]
    return found


def joined(doors, room, goal, inside):
    """True if doors join the two rooms within the set, one step after another."""
    known = {room}
    while True:
        more = {b for a, b in doors if a in known and b in inside} | {a for a, b in doors if b in known and a in inside}
        if more <= known:
            return goal in known
        known |= more


def parts_of(house):
    """All parts, in the order of the document."""
    doors = house.doors()
    found = []
    for rooms in subsets(range(house.rooms)):
        if rooms and all(joined(doors, rooms[0], room, rooms) for room in rooms):
            found.append(rooms)
    return sorted(found, key=lambda part: (len(part), part))


def pieces_of(house, rooms):
    doors = house.doors()
    found = []
    for room in sorted(rooms):
        piece = tuple(other for other in sorted(rooms) if joined(doors, room, other, rooms))
        if piece not in found:
            found.append(piece)
    return found


def top_of(log, rooms):
    called = [room for room, _ in log if room in rooms]
    return called[-1] if called else None


def word_in(log, rooms):
    called = [word for room, word in log if room in rooms]
    return called[-1] if called else None


def heard(house, log, opening):
    """What the rooms keep, call by call."""
    kept = [None] * house.rooms
    for caller, word in log:
        for room in range(house.rooms):
            if joined(opening, caller, room, range(house.rooms)):
                kept[room] = word
    return kept


def heard_one_way(house, log, opening):
    kept = [None] * house.rooms
    for caller, word in log:
        known = {caller}
        for _ in range(house.rooms):
            known |= {b for a, b in opening if a in known}
        for room in known:
            kept[room] = word
    return kept


def form_by_definition(house, log):
    """The form, with keepers found by looking at all parts."""
    words = {part: word_in(log, part) for part in parts_of(house)}

    def block(part):
        tops = tuple(
            room for room in part
            if all(words[part] == word for lesser, word in words.items() if room in lesser and set(lesser) <= set(part))
        )
        return (words[part], tops, blocks([room for room in part if room not in tops]))

    def blocks(rooms):
        return tuple(block(piece) for piece in pieces_of(house, rooms))

    return blocks(range(house.rooms))


# Lists that are passed and returned


def spoil(value):
    """Change each list in a value."""
    if isinstance(value, (list, tuple)):
        for entry in value:
            spoil(entry)
    if isinstance(value, list):
        value.append("spoilt")
        value.reverse()


def lists_of(arguments):
    return [argument for argument in arguments if isinstance(argument, (list, tuple))]


def check_clean(test, function, *arguments):
    """Arguments stay as they are, and neither a changed answer nor changed arguments matter later."""
    before = copy.deepcopy(lists_of(arguments))
    fresh = [copy.deepcopy(argument) if isinstance(argument, list) else argument for argument in arguments]
    answer = function(*arguments)
    kept = copy.deepcopy(answer)
    test.assertEqual(lists_of(arguments), before)
    spoil(answer)
    test.assertEqual(lists_of(arguments), before)
    test.assertEqual(function(*arguments), kept)
    for argument in arguments:
        if isinstance(argument, list):
            spoil(argument)
    test.assertEqual(function(*fresh), kept)
