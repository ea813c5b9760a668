"""Points 1, 3, 6 and 8: where two houses say unlike, and their mixtures."""

import itertools
import unittest

from askhouse.compare import difference, mixed
from askhouse.errors import OtherDoors, TooGreat
from askhouse.fewest import fewest
from askhouse.house import House
from tests.houses import (ODD_ZEROS, TABLE_PLACES, all_lit, changed_lamp, drawn_pairs, every_house, fields, joined,
                          line, looped, plain_apart_by_pairs, plain_difference, plain_mixed, plain_pairs, ring,
                          small_pairs, words_to)

# Lit where the last door was 1.
ENDS_WITH_ONE = (2, [[0, 1], [0, 1]], [False, True])

TABLES = [list(table) for table in itertools.product([False, True], repeat=4)]
BOTH = [False, False, False, True]
EITHER = [False, True, True, True]


class Difference(unittest.TestCase):
    def test_ordinary_houses(self):
        self.assertEqual(difference(House(*ODD_ZEROS), House(*ENDS_WITH_ONE)), [0])
        other = House(2, [[1, 2], [0, 1], [2, 2]], [False, True, True])
        self.assertEqual(difference(House(*ODD_ZEROS), other), [1])

    def test_unlike_of_the_empty_word(self):
        self.assertEqual(difference(line(1), line(2)), [])
        self.assertEqual(difference(line(2), line(1)), [])

    def test_least_of_words_as_long(self):
        one = House(3, [[0, 1, 1], [1, 1, 1]], [False, True])
        self.assertEqual(difference(one, House(3, [[0] * 3], [False])), [1])

    def test_shorter_word_goes_ahead_of_a_lesser_door(self):
        # Lit behind [0, 0] and behind [1].
        one = House(2, [[1, 2], [2, 3], [2, 2], [3, 3]], [False, False, True, False])
        self.assertEqual(difference(one, House(2, [[0, 0]], [False])), [1])

    def test_a_house_and_itself(self):
        for house in (line(1), line(400), line(400, 6), House(*ODD_ZEROS)):
            self.assertIsNone(difference(house, house))
            self.assertIsNone(difference(house, House(*fields(house))))

    def test_alike_with_other_rooms(self):
        self.assertIsNone(difference(ring(400, 2), ring(2, 2)))
        self.assertIsNone(difference(ring(2, 2), ring(398, 2)))
        self.assertIsNone(difference(ring(400, 200), fewest(ring(400, 200))))

    def test_rooms_that_are_not_reached_tell_nothing(self):
        one = House(1, [[0], [1]], [True, False])
        self.assertIsNone(difference(one, line(1)))
        self.assertIsNone(difference(line(1), one))

    def test_one_to_six_doors(self):
        for doors in range(1, 7):
            one = House(doors, [[0] * (doors - 1) + [1], [1] * doors], [False, True])
            other = House(doors, [[0] * doors], [False])
            self.assertEqual(difference(one, other), [doors - 1])
            self.assertEqual(difference(other, one), [doors - 1])

    def test_told_apart_by_a_long_word_alone(self):
        self.assertEqual(difference(line(400), line(399)), [0] * 398)
        self.assertEqual(difference(line(400, 6), House(6, [[0] * 6], [False])), [0] * 399)
        self.assertEqual(difference(line(400), changed_lamp(line(400), 399)), [0] * 399)

    def test_told_apart_by_a_word_longer_than_each_is_great(self):
        # Room 0 alone is lit: only one of them leads back there, behind 400 doors.
        lamps = [room == 0 for room in range(400)]
        one, other = House(1, looped(0, 400).ways, lamps), House(1, looped(1, 399).ways, lamps)
        self.assertEqual(difference(one, other), [0] * 400)
        # Room 398 alone is lit: behind 398 doors in both, then behind 798 and 797.
        one = House(1, looped(0, 400).ways, [room == 398 for room in range(400)])
        other = looped(0, 399)
        self.assertEqual(difference(one, other), [0] * 797)
        self.assertEqual(difference(other, one), [0] * 797)

    def test_small_houses(self):
        for one, other in small_pairs():
            self.assertEqual(difference(one, other), plain_difference(one, other))

    def test_drawn_houses(self):
        for one, other in drawn_pairs(400, 4):
            expected = plain_apart_by_pairs(joined(one, other), 0, one.rooms())
            self.assertEqual(difference(one, other), expected)
            self.assertEqual(difference(other, one), expected)


class Mixed(unittest.TestCase):
    def test_ordinary_houses(self):
        house = mixed(House(*ODD_ZEROS), House(*ENDS_WITH_ONE), BOTH)
        self.assertIs(type(house), House)
        self.assertEqual(fields(house), (2, [[1, 2], [0, 3], [1, 2], [0, 3]], [False, False, False, True]))

    def test_first_and_second_are_told_apart(self):
        one, other = House(*ODD_ZEROS), House(*ENDS_WITH_ONE)
        only_second = mixed(one, other, [False, True, False, False])
        only_first = mixed(one, other, [False, False, True, False])
        self.assertIs(only_second.says([1]), True)
        self.assertIs(only_second.says([0]), False)
        self.assertIs(only_first.says([1]), False)
        self.assertIs(only_first.says([0]), True)

    def test_all_tables_by_what_is_said(self):
        one, other = House(*ODD_ZEROS), House(*ENDS_WITH_ONE)
        for table in TABLES:
            house = mixed(one, other, table)
            for word in words_to(2, 5):
                said = (one.says(word), other.says(word))
                self.assertIs(house.says(word), table[TABLE_PLACES[said]])

    def test_rooms_alike_stay(self):
        for lit in (True, False):
            house = mixed(looped(0, 3), looped(0, 4), [lit] * 4)
            self.assertEqual(fields(house), (1, looped(0, 12).ways, [lit] * 12))

    def test_a_house_with_itself(self):
        for house in (line(400, 6), ring(400, 7), House(*ODD_ZEROS)):
            self.assertEqual(fields(mixed(house, house, BOTH)), fields(house))
            unlike = mixed(house, house, [False, True, True, False])
            self.assertEqual(unlike.lamps, [False] * house.rooms())

    def test_rooms_that_are_not_reached_go(self):
        house = House(1, [[0], [1], [2]], [True, False, True])
        self.assertEqual(fields(mixed(house, house, EITHER)), (1, [[0]], [True]))

    def test_rooms_are_numbered_by_their_least_words(self):
        one = House(2, [[2, 1], [1, 1], [2, 2]], [False, True, False])
        self.assertEqual(fields(mixed(one, all_lit(2), BOTH)),
                         (2, [[1, 2], [1, 1], [2, 2]], [False, False, True]))

    def test_one_room_each(self):
        for doors in range(1, 7):
            for table in TABLES:
                house = mixed(all_lit(doors), all_lit(doors), table)
                self.assertEqual(fields(house), (doors, [[0] * doors], [table[3]]))

    def test_four_hundred_rooms(self):
        for one, other in ((looped(0, 16), looped(0, 25)), (looped(1, 19), looped(0, 21)), (looped(0, 400), line(1)),
                           (line(1), looped(399, 1)), (looped(300, 100), looped(0, 20))):
            for left, right in ((one, other), (other, one)):
                house = mixed(left, right, EITHER)
                self.assertEqual(house.rooms(), 400)
                for size in range(450):
                    self.assertIs(house.says([0] * size), left.says([0] * size) or right.says([0] * size))

    def test_four_hundred_rooms_of_six_doors(self):
        house = mixed(looped(0, 16, 6), looped(0, 25, 6), BOTH)
        self.assertEqual(fields(house), fields(looped(0, 400, 6)))

    def test_too_great(self):
        for one, other in ((looped(1, 16), looped(0, 25)), (looped(0, 16), looped(1, 25)),
                           (looped(2, 19), looped(0, 21)), (looped(0, 3), looped(0, 134)),
                           (looped(0, 400), looped(0, 399)), (line(400), ring(3, 2)),
                           (looped(1, 16, 6), looped(0, 25, 6)), (line(400, 6), looped(0, 400, 6))):
            for table in TABLES:
                for left, right in ((one, other), (other, one)):
                    with self.assertRaises(TooGreat):
                        mixed(left, right, table)

    def test_small_houses_by_all_tables(self):
        for one, other in small_pairs():
            pairs = plain_pairs(one, other)
            for table in TABLES[1::3] if one.doors == 1 else TABLES:
                self.assertEqual(fields(mixed(one, other, table)), plain_mixed(one, other, pairs, table))

    def test_drawn_houses(self):
        for one, other in drawn_pairs(100, 5):
            house = mixed(one, other, [True, False, False, True])
            for word in words_to(one.doors, 4):
                self.assertIs(house.says(word), one.says(word) == other.says(word))


class OtherNumbersOfDoors(unittest.TestCase):
    def test_all_unlike_numbers(self):
        for one, other in itertools.permutations(range(1, 7), 2):
            with self.subTest(one=one, other=other):
                with self.assertRaises(OtherDoors):
                    difference(all_lit(one), all_lit(other))
                for table in TABLES:
                    with self.assertRaises(OtherDoors):
                        mixed(all_lit(one), all_lit(other), table)

    def test_also_where_the_empty_word_tells_them_apart(self):
        with self.assertRaises(OtherDoors):
            difference(line(2, 1), line(1, 2))

    def test_goes_ahead_of_too_great(self):
        for one, other in ((1, 2), (2, 1), (6, 5), (1, 6)):
            with self.assertRaises(OtherDoors):
                mixed(looped(0, 400, one), looped(0, 399, other), BOTH)
            with self.assertRaises(OtherDoors):
                difference(looped(0, 400, one), looped(0, 399, other))


class NothingHangs(unittest.TestCase):
    def test_what_is_handed_in_is_not_changed(self):
        one, other = House(*ODD_ZEROS), House(*ENDS_WITH_ONE)
        table = [True, False, True, False]
        difference(one, other)
        difference(one, one)
        mixed(one, other, table)
        self.assertEqual(fields(one), ODD_ZEROS)
        self.assertEqual(fields(other), ENDS_WITH_ONE)
        self.assertEqual(table, [True, False, True, False])

    def test_refused_houses_are_not_changed(self):
        one, other, table = looped(0, 400), looped(0, 399), list(BOTH)
        with self.assertRaises(TooGreat):
            mixed(one, other, table)
        with self.assertRaises(OtherDoors):
            mixed(one, line(2, 2), table)
        with self.assertRaises(OtherDoors):
            difference(one, line(2, 2))
        self.assertEqual(fields(one), fields(looped(0, 400)))
        self.assertEqual(fields(other), fields(looped(0, 399)))
        self.assertEqual(table, BOTH)

    def test_table_may_be_changed_later(self):
        table = list(BOTH)
        house = mixed(House(*ODD_ZEROS), House(*ENDS_WITH_ONE), table)
        table[:] = [True] * 4
        table.clear()
        self.assertEqual(house.lamps, [False, False, False, True])

    def test_word_given_back_may_be_changed(self):
        one, other = House(*ODD_ZEROS), House(*ENDS_WITH_ONE)
        difference(one, other).append(7)
        difference(line(1), line(2)).append(7)
        self.assertEqual(difference(one, other), [0])
        self.assertEqual(difference(line(1), line(2)), [])

    def test_mixture_shares_no_list(self):
        for house in every_house(1, 2):
            both = mixed(house, house, BOTH)
            self.assertIsNot(both, house)
            self.assertIsNot(both.lamps, house.lamps)
            self.assertFalse(any(row is other for row in both.ways for other in house.ways))


if __name__ == "__main__":
    unittest.main()
