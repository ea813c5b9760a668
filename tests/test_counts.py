"""Points 1, 2, 3 and 9: lit words, counted and numbered."""

import random
import unittest

from askhouse.counts import least_lit, many, place_of, word_at
from askhouse.errors import BadWord, NoSuch
from askhouse.house import House
from tests.houses import (ODD_ZEROS, all_lit, drawn_houses, fields, line, looped, plain_least_words, plain_lit,
                          small_houses, words_of)

# Lit behind [0, 0] and behind [1], and behind nothing else.
SHORT = (2, [[1, 2], [2, 3], [3, 3], [3, 3]], [False, False, True, False])


def great_house():
    """400 rooms of six doors, about half of them lit."""
    source = random.Random(6)
    ways = [[source.randrange(400) for _ in range(6)] for _ in range(400)]
    return House(6, ways, [source.randrange(2) == 0 for _ in range(400)])


def dark_houses():
    """Houses of which no lit room is reached."""
    yield House(1, [[0]], [False])
    yield House(6, [[0] * 6], [False])
    yield House(2, [[0, 0], [1, 0]], [False, True])
    yield House(1, [[0]] + [[1]] * 399, [False] + [True] * 399)
    yield House(6, line(400, 6).ways, [False] * 400)


class Counts(unittest.TestCase):
    def refused(self, house, size, at):
        with self.assertRaises(NoSuch):
            word_at(house, size, at)

    def held_against_plain_search(self, house, size):
        words = plain_lit(house, size)
        self.assertEqual(many(house, size), len(words))
        for at, word in enumerate(words):
            self.assertEqual(word_at(house, size, at), word)
            self.assertEqual(place_of(house, word), at)
        self.refused(house, size, -1)
        self.refused(house, size, len(words))
        for word in words_of(house.doors, size):
            if word not in words:
                with self.assertRaises(NoSuch):
                    place_of(house, word)

    def test_ordinary_house(self):
        house = House(*ODD_ZEROS)
        self.assertEqual([many(house, size) for size in range(5)], [0, 1, 2, 4, 8])
        self.assertEqual([word_at(house, 3, at) for at in range(4)], [[0, 0, 0], [0, 1, 1], [1, 0, 1], [1, 1, 0]])
        self.assertEqual(place_of(house, [1, 0, 1]), 2)

    def test_words_of_other_sizes_are_not_counted(self):
        house = House(*SHORT)
        self.assertEqual([many(house, size) for size in range(5)], [0, 1, 1, 0, 0])
        self.assertEqual(word_at(house, 1, 0), [1])
        self.assertEqual(word_at(house, 2, 0), [0, 0])
        self.assertEqual(place_of(house, [1]), 0)
        self.assertEqual(place_of(house, [0, 0]), 0)
        self.refused(house, 1, 1)
        self.refused(house, 3, 0)

    def test_size_nought(self):
        for doors in range(1, 7):
            lit, dark = all_lit(doors), House(doors, [[0] * doors], [False])
            self.assertEqual(many(lit, 0), 1)
            self.assertEqual(word_at(lit, 0, 0), [])
            self.assertEqual(place_of(lit, []), 0)
            self.refused(lit, 0, 1)
            self.refused(lit, 0, -1)
            self.assertEqual(many(dark, 0), 0)
            self.refused(dark, 0, 0)
            with self.assertRaises(NoSuch):
                place_of(dark, [])

    def test_size_four_hundred_of_one_room(self):
        for doors in range(1, 7):
            house = all_lit(doors)
            number = doors ** 400
            self.assertEqual(many(house, 400), number)
            self.assertEqual(word_at(house, 400, 0), [0] * 400)
            self.assertEqual(word_at(house, 400, number - 1), [doors - 1] * 400)
            self.assertEqual(place_of(house, [0] * 400), 0)
            self.assertEqual(place_of(house, [doors - 1] * 400), number - 1)
            for at in (-1, -number, number, number + 1, 2 * number):
                self.refused(house, 400, at)

    def test_where_all_is_lit_a_word_is_its_number_in_figures(self):
        source = random.Random(7)
        for doors in range(2, 7):
            word = [source.randrange(doors) for _ in range(400)]
            number = 0
            for door in word:
                number = number * doors + door
            self.assertEqual(place_of(all_lit(doors), word), number)
            self.assertEqual(word_at(all_lit(doors), 400, number), word)

    def test_four_hundred_rooms(self):
        house = line(400)
        self.assertEqual([many(house, size) for size in (0, 398, 399, 400)], [0, 0, 1, 1])
        self.assertEqual(word_at(house, 399, 0), [0] * 399)
        self.assertEqual(place_of(house, [0] * 400), 0)
        house = line(400, 2)
        # Of 400 doors all but one lead on, in any order, or all.
        self.assertEqual(many(house, 400), 401)
        self.assertEqual(word_at(house, 400, 1), [0] * 399 + [1])
        self.assertEqual(word_at(house, 400, 400), [1] + [0] * 399)
        self.assertEqual(place_of(house, [0] * 100 + [1] + [0] * 299), 300)
        self.refused(house, 400, 401)

    def test_great_house(self):
        house = great_house()
        number = many(house, 400)
        source = random.Random(8)
        before = None
        for at in sorted([0, 1, number - 2, number - 1] + [source.randrange(number) for _ in range(6)]):
            word = word_at(house, 400, at)
            self.assertEqual(len(word), 400)
            self.assertIs(house.says(word), True)
            self.assertEqual(place_of(house, word), at)
            # Words as long are in order as Python's own lists are.
            self.assertTrue(before is None or before < word)
            before = word
        self.refused(house, 400, number)
        self.refused(house, 400, -1)
        self.held_against_plain_search(house, 2)

    def test_lit_and_dark_words_are_all_words(self):
        house = great_house()
        dark = House(6, house.ways, [not lit for lit in house.lamps])
        for size in (0, 1, 5, 400):
            self.assertEqual(many(house, size) + many(dark, size), 6 ** size)

    def test_no_lit_room_is_reached(self):
        for house in dark_houses():
            for size in (0, 1, 2, 399, 400):
                self.assertEqual(many(house, size), 0)
                for at in (-1, 0, 1):
                    self.refused(house, size, at)
            self.assertIsNone(least_lit(house))
            for word in ([], [0], [0] * 400):
                with self.assertRaises(NoSuch):
                    place_of(house, word)

    def test_sizes_beyond_the_bounds_are_not_refused(self):
        for size in (-1, -2, -400):
            for house in (all_lit(2), House(*ODD_ZEROS)):
                self.assertEqual(many(house, size), 0)
                for at in (-1, 0):
                    self.refused(house, size, at)
        self.assertEqual(many(all_lit(6), 410), 6 ** 410)
        self.assertEqual(word_at(all_lit(6), 410, 5), [0] * 409 + [5])
        self.assertEqual(place_of(all_lit(6), [0] * 409 + [5]), 5)

    def test_small_houses(self):
        for house in small_houses():
            for size in range(3 if house.doors < 3 else 2):
                self.held_against_plain_search(house, size)

    def test_drawn_houses(self):
        for house in drawn_houses(100, 9):
            for size in range(5 if house.doors < 4 else 4):
                self.held_against_plain_search(house, size)


class PlaceOfWrongWords(unittest.TestCase):
    def test_parts_that_are_no_door(self):
        for doors in range(1, 7):
            for door in (-1, -doors, doors, doors + 1, 400, -400):
                for size in (1, 2, 5):
                    for at in range(size):
                        word = [0] * at + [door] + [0] * (size - at - 1)
                        for house in (all_lit(doors), House(doors, [[0] * doors], [False])):
                            with self.subTest(word=word, doors=doors):
                                with self.assertRaises(BadWord):
                                    place_of(house, word)

    def test_long_words(self):
        for at in range(0, 400, 57):
            for door in (-1, 6):
                with self.assertRaises(BadWord):
                    place_of(all_lit(6), [5] * at + [door] + [5] * (399 - at))

    def test_last_door_is_a_door(self):
        for doors in range(1, 7):
            self.assertEqual(place_of(all_lit(doors), [doors - 1]), doors - 1)


class LeastLit(unittest.TestCase):
    def test_ordinary_houses(self):
        self.assertEqual(least_lit(House(*ODD_ZEROS)), [0])
        self.assertEqual(least_lit(House(*SHORT)), [1])

    def test_empty_word(self):
        for doors in range(1, 7):
            self.assertEqual(least_lit(all_lit(doors)), [])

    def test_least_of_words_as_long(self):
        # Lit behind [1, 0] and [0, 1], which lead to other rooms.
        house = House(2, [[2, 1], [3, 0], [0, 4], [3, 3], [4, 4]], [False, False, False, True, True])
        self.assertEqual(least_lit(house), [0, 1])

    def test_long_word(self):
        self.assertEqual(least_lit(line(400)), [0] * 399)
        self.assertEqual(least_lit(line(400, 6)), [0] * 399)
        self.assertEqual(least_lit(looped(0, 400, 6)), [0] * 399)

    def test_small_houses(self):
        for house in small_houses():
            lit = [word for room, word in plain_least_words(house).items() if house.lamps[room]]
            self.assertEqual(least_lit(house), lit[0] if lit else None)


class NothingHangs(unittest.TestCase):
    def test_what_is_handed_in_is_not_changed(self):
        house = House(*ODD_ZEROS)
        word = [1, 0, 1]
        many(house, 3)
        word_at(house, 3, 2)
        place_of(house, word)
        least_lit(house)
        with self.assertRaises(NoSuch):
            word_at(house, 3, 4)
        with self.assertRaises(NoSuch):
            place_of(house, [0, 0])
        self.assertEqual(fields(house), ODD_ZEROS)
        self.assertEqual(word, [1, 0, 1])

    def test_refused_words_are_not_changed(self):
        for word in ([0, 2], [0, 0], [-1]):
            kept = list(word)
            with self.assertRaises((BadWord, NoSuch)):
                place_of(House(*ODD_ZEROS), word)
            self.assertEqual(word, kept)

    def test_words_given_back_may_be_changed(self):
        house = House(*ODD_ZEROS)
        word_at(house, 3, 2).clear()
        word_at(all_lit(1), 0, 0).append(5)
        least_lit(house).append(1)
        least_lit(all_lit(1)).append(1)
        self.assertEqual(word_at(house, 3, 2), [1, 0, 1])
        self.assertEqual(word_at(all_lit(1), 0, 0), [])
        self.assertEqual(least_lit(house), [0])
        self.assertEqual(least_lit(all_lit(1)), [])
        self.assertEqual(fields(house), ODD_ZEROS)

    def test_kinds_given_back(self):
        house = House(*ODD_ZEROS)
        self.assertIs(type(many(house, 0)), int)
        self.assertIs(type(many(house, 3)), int)
        self.assertIs(type(place_of(house, [0])), int)
        self.assertIs(type(word_at(house, 1, 0)), list)
        self.assertIs(type(least_lit(house)), list)


if __name__ == "__main__":
    unittest.main()
