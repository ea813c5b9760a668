"""Houses to test with, and slow plain answers to compare with."""

import itertools
import random

from askhouse.house import House

# Where a table's truth stands, by what the first and the second house say.
TABLE_PLACES = {(False, False): 0, (False, True): 1, (True, False): 2, (True, True): 3}
# The fields of a house that is lit where the number of zeros is odd.
ODD_ZEROS = (2, [[1, 0], [0, 1]], [False, True])


def all_lit(doors):
    return House(doors, [[0] * doors], [True])


def line(rooms, doors=1):
    """Door 0 leads on, the others stay; only the last room is lit."""
    ways = [[min(room + 1, rooms - 1)] + [room] * (doors - 1) for room in range(rooms)]
    return House(doors, ways, [room == rooms - 1 for room in range(rooms)])


def ring(rooms, lit_each):
    ways = [[(room + 1) % rooms] for room in range(rooms)]
    return House(1, ways, [room % lit_each == 0 for room in range(rooms)])


def looped(tail, cycle, doors=1):
    """All doors lead on: through the tail once, then round; the last room is lit."""
    rooms = tail + cycle
    ways = [[room + 1] * doors for room in range(rooms - 1)] + [[tail] * doors]
    return House(doors, ways, [room == rooms - 1 for room in range(rooms)])


def changed_lamp(house, room):
    lamps = list(house.lamps)
    lamps[room] = not lamps[room]
    return House(house.doors, house.ways, lamps)


def fields(house):
    return (house.doors, house.ways, house.lamps)


def every_house(doors, rooms):
    rows = [list(row) for row in itertools.product(range(rooms), repeat=doors)]
    for ways in itertools.product(rows, repeat=rooms):
        for lamps in itertools.product([False, True], repeat=rooms):
            yield House(doors, list(ways), list(lamps))


def small_houses():
    for doors, most in ((1, 4), (2, 3), (3, 2), (6, 1)):
        for rooms in range(1, most + 1):
            yield from every_house(doors, rooms)


def drawn_houses(number, seed):
    """Houses of middle size with few lit rooms, so that long words part them."""
    source = random.Random(seed)
    for _ in range(number):
        doors = source.randrange(1, 7)
        rooms = source.randrange(4, 13)
        near = [[source.randrange(max(0, room - 2), min(rooms, room + 3)) for _ in range(doors)]
                for room in range(rooms)]
        lamps = [source.randrange(5) == 0 for _ in range(rooms)]
        yield House(doors, near, lamps)


def small_pairs():
    for doors, most in ((1, 3), (2, 2), (3, 1), (6, 1)):
        houses = [house for rooms in range(1, most + 1) for house in every_house(doors, rooms)]
        yield from itertools.product(houses, repeat=2)


def drawn_pairs(number, seed):
    """Pairs with as many doors, half of them unlike in one lamp alone."""
    firsts = {}
    for house in drawn_houses(number, seed):
        other = firsts.setdefault(house.doors, house)
        yield (house, other)
        yield (house, changed_lamp(house, house.rooms() - 1))
        firsts[house.doors] = house


def words_of(doors, size):
    """All words of a length, in their order."""
    return [list(word) for word in itertools.product(range(doors), repeat=size)]


def words_to(doors, longest):
    """All words up to a length, in their order."""
    for size in range(longest + 1):
        yield from words_of(doors, size)


def wrong_words(doors):
    """Words with one part that is no door, at every place."""
    for door in (-1, -doors, doors, doors + 1, 400, -400):
        for size in (1, 2, 4):
            for at in range(size):
                yield [0] * at + [door] + [doors - 1] * (size - at - 1)
        yield [0] * 200 + [door] + [0] * 199
        yield [0] * 399 + [door]


def walk(house, room, word):
    for door in word:
        room = house.ways[room][door]
    return room


def parts(house, one, other, word):
    return house.lamps[walk(house, one, word)] != house.lamps[walk(house, other, word)]


def plain_least_words(house):
    """Tries every word; no room needs more doors than there are other rooms."""
    found = {}
    for word in words_to(house.doors, house.rooms() - 1):
        found.setdefault(walk(house, 0, word), word)
    return found


def plain_apart_by_words(house, one, other):
    for word in words_to(house.doors, house.rooms() - 1):
        if parts(house, one, other, word):
            return word
    return None


def plain_apart_by_pairs(house, one, other):
    """Walks all pairs of rooms, leaving out only pairs that were met."""
    queue = [(one, other, [])]
    met = {(one, other)}
    for left, right, word in queue:
        if house.lamps[left] != house.lamps[right]:
            return word
        for door in range(house.doors):
            pair = (house.ways[left][door], house.ways[right][door])
            if pair not in met:
                met.add(pair)
                queue.append(pair + (word + [door],))
    return None


def joined(one, other):
    """One house with the rooms of both, the other's behind."""
    shift = one.rooms()
    ways = one.ways + [[way + shift for way in row] for row in other.ways]
    return House(one.doors, ways, one.lamps + other.lamps)


def plain_difference(one, other):
    """Tries every word; none needs as many doors as there are rooms in both."""
    for word in words_to(one.doors, one.rooms() + other.rooms() - 1):
        if one.says(word) != other.says(word):
            return word
    return None


def plain_pairs(one, other):
    """The pairs to which words lead, found by trying every word."""
    found = {}
    for word in words_to(one.doors, one.rooms() * other.rooms() - 1):
        found.setdefault((walk(one, 0, word), walk(other, 0, word)), word)
    return list(found)


def plain_mixed(one, other, pairs, table):
    ways = [[pairs.index((one.ways[left][door], other.ways[right][door])) for door in range(one.doors)]
            for left, right in pairs]
    return (one.doors, ways, [table[TABLE_PLACES[one.lamps[left], other.lamps[right]]] for left, right in pairs])


def plain_lit(house, size):
    return [word for word in words_of(house.doors, size) if house.lamps[walk(house, 0, word)]]


def plain_fewest(house):
    """Puts the reached rooms together that no word parts, in their order."""
    firsts = []
    for room in plain_least_words(house):
        if all(plain_apart_by_pairs(house, first, room) is not None for first in firsts):
            firsts.append(room)

    def number(room):
        return [plain_apart_by_pairs(house, first, room) for first in firsts].index(None)

    ways = [[number(way) for way in house.ways[room]] for room in firsts]
    return (house.doors, ways, [house.lamps[room] for room in firsts])


class PlainLearner:
    """Points 11 to 15, with all lines and tails looked through anew each time."""

    def __init__(self, doors):
        self.doors = doors
        self.noted = {}
        self.heads = [[]]
        self.tails = [[]]

    def edges_of(self, head):
        return [head + [door] for door in range(self.doors)]

    def row(self, word):
        return [self.noted[tuple(word + tail)] for tail in self.tails]

    def question(self):
        for head in self.heads:
            for line in [head] + self.edges_of(head):
                for tail in self.tails:
                    if tuple(line + tail) not in self.noted:
                        return line + tail
        return None

    def unlike_edges(self):
        rows = [self.row(head) for head in self.heads]
        return [edge for head in self.heads for edge in self.edges_of(head) if self.row(edge) not in rows]

    def add_unlike_edges(self):
        while self.question() is None and self.unlike_edges():
            self.heads.append(self.unlike_edges()[0])

    def answer(self, lit):
        self.noted[tuple(self.question())] = lit
        self.add_unlike_edges()

    def guess(self):
        rows = [self.row(head) for head in self.heads]
        ways = [[rows.index(self.row(edge)) for edge in self.edges_of(head)] for head in self.heads]
        return House(self.doors, ways, [self.noted[tuple(head)] for head in self.heads])

    def wrong(self, word, lit):
        self.noted[tuple(word)] = lit
        for place in range(len(word) - 1, -1, -1):
            if word[place:] not in self.tails:
                self.tails.append(word[place:])
        self.add_unlike_edges()

    def state(self):
        return (self.question(), self.heads, self.tails, [(list(word), lit) for word, lit in self.noted.items()])


def plain_lesson(house):
    """Point 16, as fields of the last guess, told words and the number of answers."""
    learner, told, answered = PlainLearner(house.doors), [], 0
    while True:
        while learner.question() is not None:
            learner.answer(house.says(learner.question()))
            answered += 1
        guess = learner.guess()
        word = plain_apart_by_pairs(joined(guess, house), 0, guess.rooms())
        if word is None:
            return (fields(guess), told, answered)
        learner.wrong(word, house.says(word))
        told.append(word)
