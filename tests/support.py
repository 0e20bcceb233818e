"""What the tests share: houses and logs to try, and answers worked out from the definitions alone."""

import copy
import functools
import itertools
import random

from callsheard.house import House

WORDS = ["bell", "drum", "horn"]


# Houses and logs to try


def every_house(rooms):
    """Each house with that many rooms."""
    doors = list(itertools.combinations(range(rooms), 2))
    for count in range(len(doors) + 1):
        for chosen in itertools.combinations(doors, count):
            yield House(rooms, list(chosen))


def some_houses(seed, rooms, count):
    """Houses with that many rooms, the same ones for each seed."""
    dice = random.Random(seed)
    doors = list(itertools.combinations(range(rooms), 2))
    for _ in range(count):
        chance = dice.choice([0.3, 0.5, 0.8])
        yield House(rooms, [door for door in doors if dice.random() < chance])


def a_log(dice, rooms, calls, words=None):
    """A log with that many calls in any rooms."""
    words = WORDS if words is None else words
    return [(dice.randrange(rooms), dice.choice(words)) for _ in range(calls)]


def two_logs(dice, rooms, words=None):
    """Two logs, mostly of the same rooms with the same last words, since others are easily told apart."""
    words = WORDS if words is None else words
    first = a_log(dice, rooms, dice.randrange(2 * rooms + 2), words)
    kind = dice.randrange(6)
    if kind == 0:
        return first, a_log(dice, rooms, dice.randrange(2 * rooms + 2), words)
    second = by_definition_last_calls(first)
    if kind == 1:
        dice.shuffle(second)
    else:
        for _ in range(kind - 1):
            if len(second) > 1:
                at = dice.randrange(len(second) - 1)
                second[at], second[at + 1] = second[at + 1], second[at]
    return first, second


def trials(seed):
    """Small houses with two logs each."""
    dice = random.Random(seed)
    houses = itertools.chain(every_house(1), every_house(2), every_house(3), some_houses(seed, 4, 60))
    for house in itertools.chain(houses, some_houses(seed + 1, 5, 40)):
        for _ in range(6):
            first, second = two_logs(dice, house.rooms)
            yield house, first, second


def form_trials(seed, most_rooms=6):
    """Houses with up to that many rooms, with a log each."""
    dice = random.Random(seed)
    houses = [every_house(rooms) for rooms in (1, 2, 3, 4)] + [some_houses(seed, 5, 30), some_houses(seed + 1, 6, 15)]
    for house in itertools.chain(*houses[:most_rooms]):
        for words in (["bell", "drum", "horn"], ["bell", "drum"], ["a", "b", "c", "d", "e", "f"]):
            yield house, a_log(dice, house.rooms, dice.randrange(2 * house.rooms + 2), words)


def some_facts(seed, count, most_rooms=5):
    """Lists of words, pairs and heard entries, most of them true of some order."""
    dice = random.Random(seed)
    for _ in range(count):
        rooms = dice.randrange(1, most_rooms + 1)
        words = [dice.choice(WORDS[:dice.choice([2, 3])] + [None] * dice.randrange(2)) for _ in range(rooms)]
        order = [room for room in range(rooms) if words[room] is not None]
        dice.shuffle(order)
        log = [(room, words[room]) for room in order]
        pairs = []
        for _ in range(dice.randrange(4) if len(order) > 1 else 0):
            x, y = sorted(dice.sample(order, 2), key=order.index)
            pairs.append((x, y) if dice.random() < 0.85 else (y, x))
        heard = []
        for _ in range(dice.randrange(4)):
            members = tuple(sorted(dice.sample(range(rooms), dice.randrange(1, rooms + 1))))
            word = word_in(log, members)
            heard.append((members, word if dice.random() < 0.85 else dice.choice(WORDS + [None])))
        yield words, pairs, heard


def some_looks(seed, count, most_rooms=5, most_doors=6):
    """Houses with a log, looks and known doors each, most of them true of some opening."""
    dice = random.Random(seed)
    for _ in range(count):
        rooms = dice.randrange(1, most_rooms + 1)
        doors = [door for door in itertools.combinations(range(rooms), 2) if dice.random() < 0.7]
        doors = sorted(dice.sample(doors, min(len(doors), most_doors)))
        house = House(rooms, doors)
        truth = [door for door in doors if dice.random() < 0.5]
        log = a_log(dice, rooms, dice.randrange(2 * rooms + 2), WORDS[:dice.choice([2, 3])])
        looks = []
        for _ in range(dice.randrange(4)):
            looked = dice.randrange(len(log) + 1)
            looks.append((looked, heard(house, log[:looked], truth)))
        known = [door for door in doors if dice.random() < 0.25]
        opened = [door for door in known if door in truth]
        shut = [door for door in known if door not in truth]
        if looks and dice.random() < 0.2:
            dice.choice(looks)[1][dice.randrange(rooms)] = dice.choice(WORDS + [None])
        if known and dice.random() < 0.1:
            opened, shut = shut, opened
        yield house, log, looks, opened, shut


def by_definition_last_calls(log):
    return [call for place, call in enumerate(log) if all(later[0] != call[0] for later in log[place + 1:])]


# Answers from the definitions


def door_set(house):
    return set(house.doors())


def subsets(things):
    things = list(things)
    for count in range(len(things) + 1):
        yield from itertools.combinations(things, count)


def paths_of(house, inside=None):
    """Each path of a house (inside a set of rooms), the first ones first."""
    doors = door_set(house)
    rooms = range(house.rooms) if inside is None else inside
    found = []
    grown = [(room,) for room in rooms]
    while grown:
        found.extend(grown)
        grown = [
            path + (room,) for path in grown for room in rooms
            if room not in path and (min(path[-1], room), max(path[-1], room)) in doors
        ]
    return sorted(found, key=lambda path: (len(path), path))


def one_way_paths_of(house):
    doors = set(house.doors())
    found = []
    grown = [(room,) for room in range(house.rooms)]
    while grown:
        found.extend(grown)
        grown = [
            path + (room,) for path in grown for room in range(house.rooms)
            if room not in path and (path[-1], room) in doors
        ]
    return found


def joined(doors, room, goal, inside):
    """True if doors join the two rooms within the set, one step after another."""
    known = {room}
    while True:
        more = {b for a, b in doors if a in known and b in inside} | {a for a, b in doors if b in known and a in inside}
        if more <= known:
            return goal in known
        known |= more


def parts_of(house):
    """All parts, in the order of the document."""
    doors = house.doors()
    found = []
    for rooms in subsets(range(house.rooms)):
        if rooms and all(joined(doors, rooms[0], room, rooms) for room in rooms):
            found.append(rooms)
    return sorted(found, key=lambda part: (len(part), part))


def pieces_of(house, rooms):
    doors = house.doors()
    found = []
    for room in sorted(rooms):
        piece = tuple(other for other in sorted(rooms) if joined(doors, room, other, rooms))
        if piece not in found:
            found.append(piece)
    return found


def top_of(log, rooms):
    called = [room for room, _ in log if room in rooms]
    return called[-1] if called else None


def word_in(log, rooms):
    called = [word for room, word in log if room in rooms]
    return called[-1] if called else None


def heard(house, log, opening):
    """What the rooms keep, call by call."""
    kept = [None] * house.rooms
    for caller, word in log:
        for room in range(house.rooms):
            if joined(opening, caller, room, range(house.rooms)):
                kept[room] = word
    return kept


def heard_one_way(house, log, opening):
    kept = [None] * house.rooms
    for caller, word in log:
        known = {caller}
        for _ in range(house.rooms):
            known |= {b for a, b in opening if a in known}
        for room in known:
            kept[room] = word
    return kept


def form_by_definition(house, log):
    """The form, with keepers found by looking at all parts."""
    words = {part: word_in(log, part) for part in parts_of(house)}

    def block(part):
        tops = tuple(
            room for room in part
            if all(words[part] == word for lesser, word in words.items() if room in lesser and set(lesser) <= set(part))
        )
        return (words[part], tops, blocks([room for room in part if room not in tops]))

    def blocks(rooms):
        return tuple(block(piece) for piece in pieces_of(house, rooms))

    return blocks(range(house.rooms))


def blocks_in_order(form):
    found = []
    for block in form:
        found.append(block)
        found.extend(blocks_in_order(block[2]))
    return found


def rooms_of(block):
    return sorted(room for inside in blocks_in_order((block,)) for room in inside[1])


def orders_keeping(house, form):
    """All orders of the called rooms under whose log the house has the form, in ascending order."""
    words = {room: block[0] for block in blocks_in_order(form) for room in block[1]}
    called = [room for room in sorted(words) if words[room] is not None]
    return [
        order for order in itertools.permutations(called)
        if form_by_definition(house, [(room, words[room]) for room in order]) == form
    ]


@functools.cache
def order_trials():
    """Houses with a form each, and all orders that keep it."""
    found = []
    for house, log in form_trials(1001, 5):
        form = form_by_definition(house, log)
        found.append((house, form, orders_keeping(house, form)))
    return found


def all_fitting_orders(words, pairs, heard):
    """All orders that fit facts, in ascending order."""
    called = [room for room, word in enumerate(words) if word is not None]
    found = []
    for order in itertools.permutations(called):
        log = [(room, words[room]) for room in order]
        if all(order.index(x) < order.index(y) for x, y in pairs):
            if all(word_in(log, rooms) == word for rooms, word in heard):
                found.append(order)
    return found


def fitting_openings_of(house, log, looks, opened, shut):
    """All openings that fit, in the order of the document."""
    found = []
    for choice in itertools.product([False, True], repeat=len(house.doors())):
        opening = [door for door, is_open in zip(house.doors(), choice) if is_open]
        if set(opened) <= set(opening) and not set(shut) & set(opening):
            if all(heard(house, log[:count], opening) == list(seen) for count, seen in looks):
                found.append(opening)
    return found


# Lists that are passed and returned


def spoil(value):
    """Change each list in a value."""
    if isinstance(value, (list, tuple)):
        for entry in value:
            spoil(entry)
    if isinstance(value, list):
        value.append("spoilt")
        value.reverse()


def lists_of(arguments):
    return [argument for argument in arguments if isinstance(argument, (list, tuple))]


def check_clean(test, function, *arguments):
    """Arguments stay as they are, and neither a changed answer nor changed arguments matter later."""
    before = copy.deepcopy(lists_of(arguments))
    fresh = [copy.deepcopy(argument) if isinstance(argument, list) else argument for argument in arguments]
    answer = function(*arguments)
    kept = copy.deepcopy(answer)
    test.assertEqual(lists_of(arguments), before)
    spoil(answer)
    test.assertEqual(lists_of(arguments), before)
    test.assertEqual(function(*arguments), kept)
    for argument in arguments:
        if isinstance(argument, list):
            spoil(argument)
    test.assertEqual(function(*fresh), kept)
