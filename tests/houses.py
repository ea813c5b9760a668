"""Houses to test with, and slow plain answers to compare with."""

import itertools
import random

from askhouse.house import House


def line(rooms, doors=1):
    """Door 0 leads on, the others stay; only the last room is lit."""
    ways = [[min(room + 1, rooms - 1)] + [room] * (doors - 1) for room in range(rooms)]
    return House(doors, ways, [room == rooms - 1 for room in range(rooms)])


def ring(rooms, lit_each):
    ways = [[(room + 1) % rooms] for room in range(rooms)]
    return House(1, ways, [room % lit_each == 0 for room in range(rooms)])


def fields(house):
    return (house.doors, house.ways, house.lamps)


def every_house(doors, rooms):
    rows = [list(row) for row in itertools.product(range(rooms), repeat=doors)]
    for ways in itertools.product(rows, repeat=rooms):
        for lamps in itertools.product([False, True], repeat=rooms):
            yield House(doors, list(ways), list(lamps))


def small_houses():
    for doors, most in ((1, 4), (2, 3), (3, 2), (6, 1)):
        for rooms in range(1, most + 1):
            yield from every_house(doors, rooms)


def drawn_houses(number, seed):
    """Houses of middle size with few lit rooms, so that long words part them."""
    source = random.Random(seed)
    for _ in range(number):
        doors = source.randrange(1, 7)
        rooms = source.randrange(4, 13)
        near = [[source.randrange(max(0, room - 2), min(rooms, room + 3)) for _ in range(doors)]
                for room in range(rooms)]
        lamps = [source.randrange(5) == 0 for _ in range(rooms)]
        yield House(doors, near, lamps)


def words_to(doors, longest):
    """All words up to a length, in their order."""
    for size in range(longest + 1):
        for word in itertools.product(range(doors), repeat=size):
            yield list(word)


def walk(house, room, word):
    for door in word:
        room = house.ways[room][door]
    return room


def parts(house, one, other, word):
    return house.lamps[walk(house, one, word)] != house.lamps[walk(house, other, word)]


def plain_least_words(house):
    """Tries every word; no room needs more doors than there are other rooms."""
    found = {}
    for word in words_to(house.doors, house.rooms() - 1):
        found.setdefault(walk(house, 0, word), word)
    return found


def plain_apart_by_words(house, one, other):
    for word in words_to(house.doors, house.rooms() - 1):
        if parts(house, one, other, word):
            return word
    return None


def plain_apart_by_pairs(house, one, other):
    """Walks all pairs of rooms, leaving out only pairs that were met."""
    queue = [(one, other, [])]
    met = {(one, other)}
    for left, right, word in queue:
        if house.lamps[left] != house.lamps[right]:
            return word
        for door in range(house.doors):
            pair = (house.ways[left][door], house.ways[right][door])
            if pair not in met:
                met.add(pair)
                queue.append(pair + (word + [door],))
    return None


def plain_fewest(house):
    """Puts the reached rooms together that no word parts, in their order."""
    firsts = []
    for room in plain_least_words(house):
        if all(plain_apart_by_pairs(house, first, room) is not None for first in firsts):
            firsts.append(room)

    def number(room):
        return [plain_apart_by_pairs(house, first, room) for first in firsts].index(None)

    ways = [[number(way) for way in house.ways[room]] for room in firsts]
    return (house.doors, ways, [house.lamps[room] for room in firsts])
