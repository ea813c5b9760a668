"""The reached rooms of a house, words that part rooms, and the fewest house."""

from askhouse.errors import NoRoom
from askhouse.house import House


def words_by_room(house):
    # Rooms are met in the order of their least words, since each is left by
    # its doors in their order before any room met later; the dict keeps it.
    words = {0: []}
    rooms = [0]
    at = 0
    while at < len(rooms):
        room = rooms[at]
        for door, way in enumerate(house.ways[room]):
            if way not in words:
                words[way] = words[room] + [door]
                rooms.append(way)
        at += 1
    return words


def least_words(house):
    return list(words_by_room(house).values())


def reached(house):
    return list(words_by_room(house))


def leader(links, room):
    while links[room] != room:
        # Shortens the chain, so that later searches stay quick.
        links[room] = links[links[room]]
        room = links[room]
    return room


def newly_linked(links, one, other):
    first = leader(links, one)
    second = leader(links, other)
    links[second] = first
    return first != second


def pairs_behind(ways, pairs, links):
    further = []
    for one, other, word in pairs:
        for door, way in enumerate(ways[one]):
            if newly_linked(links, way, ways[other][door]):
                further.append((way, ways[other][door], word + [door]))
    return further


def parting_word(ways, lamps, one, other):
    # Pairs of rooms are met in the order of the words that lead to them. A pair
    # that earlier pairs link already is left out: a word that parts it parts
    # one of those too, and so a lesser word than through this pair is there.
    links = list(range(len(ways)))
    pairs = []
    if newly_linked(links, one, other):
        pairs.append((one, other, []))
    while len(pairs) > 0:
        for left, right, word in pairs:
            if lamps[left] != lamps[right]:
                return word
        pairs = pairs_behind(ways, pairs, links)
    return None


def check_room(house, room):
    if not 0 <= room < house.rooms():
        raise NoRoom(f"{room} is no room of the house")


def apart(house, one, other):
    check_room(house, one)
    check_room(house, other)
    return parting_word(house.ways, house.lamps, one, other)


def with_rooms(house, rooms, numbers):
    ways = []
    for room in rooms:
        ways.append([numbers[way] for way in house.ways[room]])
    return House(house.doors, ways, [house.lamps[room] for room in rooms])


def without_unreached(house):
    rooms = reached(house)
    numbers = {}
    for place, room in enumerate(rooms):
        numbers[room] = place
    return with_rooms(house, rooms, numbers)


def numbered(marks):
    numbers = {}
    for mark in marks:
        numbers.setdefault(mark, len(numbers))
    return [numbers[mark] for mark in marks]


def parted_further(house, kinds):
    marks = []
    for room, row in enumerate(house.ways):
        marks.append((kinds[room], tuple([kinds[way] for way in row])))
    return numbered(marks)


def kinds_of_rooms(house):
    # Each round parts by words one door longer. Where a round parts nothing,
    # no longer word does, and what is left of one kind is alike.
    kinds = numbered(house.lamps)
    finer = parted_further(house, kinds)
    while max(finer) > max(kinds):
        kinds = finer
        finer = parted_further(house, kinds)
    return kinds


def fewest(house):
    trimmed = without_unreached(house)
    # Kinds are numbered as they first come among the reached rooms, and so in
    # the order of the least words that lead to them.
    kinds = kinds_of_rooms(trimmed)
    firsts = [kinds.index(kind) for kind in range(max(kinds) + 1)]
    return with_rooms(trimmed, firsts, kinds)
