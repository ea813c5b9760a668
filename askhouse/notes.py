"""Houses written as texts, and read from them."""

from askhouse.errors import BadHouse, BadText
from askhouse.house import MOST_ROOMS, House

HEADING = "doors "


def shown(house):
    rows = [HEADING + str(house.doors)]
    for lit, ways in zip(house.lamps, house.ways):
        parts = ["lit" if lit else "dark"]
        parts.extend([str(way) for way in ways])
        rows.append(" ".join(parts))
    return "\n".join(rows)


def written_numbers():
    # A number is looked up by its figures: so it is read only as it is written,
    # without a nought or a sign ahead, and no greater one than a house can hold.
    numbers = {}
    for number in range(MOST_ROOMS):
        numbers[str(number)] = number
    return numbers


def number_of(numbers, figures):
    if figures not in numbers:
        raise BadText("no number of a house stands where one should")
    return numbers[figures]


def lamp_of(name):
    if name == "lit":
        return True
    if name == "dark":
        return False
    raise BadText("a row of a room begins with neither lit nor dark")


def doors_of(numbers, row):
    if not row.startswith(HEADING):
        raise BadText("the first row does not tell the number of doors")
    return number_of(numbers, row[len(HEADING):])


def read(text):
    # Split at each single sign, so that one too many leaves an empty part,
    # which is no lamp and no number.
    rows = text.split("\n")
    numbers = written_numbers()
    doors = doors_of(numbers, rows[0])
    ways = []
    lamps = []
    for row in rows[1:]:
        parts = row.split(" ")
        lamps.append(lamp_of(parts[0]))
        ways.append([number_of(numbers, figures) for figures in parts[1:]])
    try:
        return House(doors, ways, lamps)
    except BadHouse as refusal:
        raise BadText("the text does not tell of a house") from refusal
