"""Two houses beside one another: where they say unlike, and their mixtures."""

from askhouse.errors import OtherDoors, TooGreat
from askhouse.fewest import parting_word
from askhouse.house import MOST_ROOMS, House


def check_same_doors(one, other):
    if one.doors != other.doors:
        raise OtherDoors("the houses have unlike numbers of doors")


def difference(one, other):
    check_same_doors(one, other)
    # The rooms of both stand in one list, the other's behind: so a word of
    # which the houses say unlike is one that parts their first rooms.
    shift = one.rooms()
    ways = list(one.ways)
    for row in other.ways:
        ways.append([way + shift for way in row])
    return parting_word(ways, one.lamps + other.lamps, 0, shift)


def pairs_ahead(one, other, pair):
    return list(zip(one.ways[pair[0]], other.ways[pair[1]]))


def numbers_of_pairs(one, other):
    # Pairs are met in the order of the least words that lead to them, as each
    # is left by its doors in their order before any pair met later.
    numbers = {(0, 0): 0}
    pairs = [(0, 0)]
    at = 0
    while at < len(pairs):
        for pair in pairs_ahead(one, other, pairs[at]):
            if pair not in numbers:
                numbers[pair] = len(pairs)
                pairs.append(pair)
        # Asked in each round, since there may be 160,000 pairs in all.
        if len(pairs) > MOST_ROOMS:
            raise TooGreat("the mixture would have more than 400 rooms")
        at += 1
    return numbers


def truth_of(table, first, second):
    if first:
        return table[3] if second else table[2]
    return table[1] if second else table[0]


def mixed(one, other, table):
    check_same_doors(one, other)
    numbers = numbers_of_pairs(one, other)
    ways = []
    lamps = []
    for pair in numbers:
        ways.append([numbers[further] for further in pairs_ahead(one, other, pair)])
        lamps.append(truth_of(table, one.lamps[pair[0]], other.lamps[pair[1]]))
    return House(one.doors, ways, lamps)
