"""A house of rooms, doors and lamps, and the walks through it."""

from askhouse.errors import BadHouse, BadWord

MOST_DOORS = 6
MOST_ROOMS = 400


def check_doors(doors):
    if not 1 <= doors <= MOST_DOORS:
        raise BadHouse(f"there are 1 to 6 doors, not {doors}")


def check_house(doors, ways, lamps):
    check_doors(doors)
    rooms = len(ways)
    if not 1 <= rooms <= MOST_ROOMS:
        raise BadHouse(f"a house has 1 to 400 rooms, not {rooms}")
    if len(lamps) != rooms:
        raise BadHouse("a house has as many lamps as rooms")
    for room, row in enumerate(ways):
        if len(row) != doors:
            raise BadHouse(f"room {room} does not have as many ways as doors")
        for way in row:
            if not 0 <= way < rooms:
                raise BadHouse(f"a door of room {room} leads to {way}, which is no room")


def check_word(doors, word):
    for door in word:
        if not 0 <= door < doors:
            raise BadWord(f"{door} is no door")


class House:
    def __init__(self, doors, ways, lamps):
        check_house(doors, ways, lamps)
        self.doors = doors
        # Copies, rows too, so that the caller's lists may be changed later.
        self.ways = [list(row) for row in ways]
        self.lamps = list(lamps)

    def rooms(self):
        return len(self.ways)

    def trail(self, word):
        check_word(self.doors, word)
        walked = [0]
        for door in word:
            walked.append(self.ways[walked[-1]][door])
        return walked

    def room_of(self, word):
        return self.trail(word)[-1]

    def says(self, word):
        return self.lamps[self.room_of(word)]
