"""The lit words of a house, counted and numbered."""

from askhouse.errors import NoSuch
from askhouse.fewest import words_by_room


def one_door_more(house, counts):
    further = []
    for row in house.ways:
        further.append(sum([counts[way] for way in row]))
    return further


def counts_to(house, size):
    # In the row at place n stands for each room how many words with n doors
    # lead from there to a lit room.
    rows = [[1 if lit else 0 for lit in house.lamps]]
    while len(rows) <= size:
        rows.append(one_door_more(house, rows[-1]))
    return rows


def many(house, size):
    # No word has fewer than no doors.
    if size < 0:
        return 0
    return counts_to(house, size)[size][0]


def word_at(house, size, at):
    rows = counts_to(house, size)
    if size < 0 or not 0 <= at < rows[size][0]:
        raise NoSuch(f"no lit word with {size} doors has this number")
    word = []
    room = 0
    left = at
    while len(word) < size:
        counts = rows[size - len(word) - 1]
        door = 0
        # The words behind each lesser door go ahead, and are taken off.
        while left >= counts[house.ways[room][door]]:
            left -= counts[house.ways[room][door]]
            door += 1
        word.append(door)
        room = house.ways[room][door]
    return word


def place_of(house, word):
    walked = house.trail(word)
    if not house.lamps[walked[-1]]:
        raise NoSuch("the word is not lit")
    rows = counts_to(house, len(word))
    place = 0
    for at, door in enumerate(word):
        counts = rows[len(word) - at - 1]
        # The words go ahead that part from this one here by a lesser door.
        for way in house.ways[walked[at]][:door]:
            place += counts[way]
    return place


def least_lit(house):
    for room, word in words_by_room(house).items():
        if house.lamps[room]:
            return word
    return None
