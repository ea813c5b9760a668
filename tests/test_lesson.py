"""Points 1, 3 and 16: lessons."""

import copy
import itertools
import random
import unittest

from askhouse.fewest import fewest
from askhouse.house import House
from askhouse.lesson import lesson
from tests.houses import (
    ODD_ZEROS, all_lit, drawn_houses, every_house, fields, line, looped, plain_difference, plain_lesson, ring)


def plain_form(answer):
    return (fields(answer[0]), answer[1], answer[2])


def drawn_house(source, rooms, doors):
    """Each room is reached through door 0; about a third of them is lit."""
    ways = [[(room + 1) % rooms] + [source.randrange(rooms) for _ in range(doors - 1)] for room in range(rooms)]
    return House(doors, ways, [source.randrange(3) == 0 for _ in range(rooms)])


class Lessons(unittest.TestCase):
    def hold(self, house):
        with self.subTest(fields(house)):
            answer = lesson(house)
            self.assertEqual(plain_form(answer), plain_lesson(house))
            self.assertEqual(answer[0].rooms(), fewest(house).rooms())
            self.assertLess(len(answer[1]), fewest(house).rooms())

    def test_kinds_given_back(self):
        answer = lesson(line(3, 2))
        self.assertIs(type(answer), tuple)
        self.assertEqual([type(part) for part in answer], [House, list, int])
        self.assertEqual([type(word) for word in answer[1]], [list])

    def test_argument(self):
        self.assertEqual(plain_form(lesson(house=all_lit(1))), ((1, [[0]], [True]), [], 2))

    def test_by_hand(self):
        self.assertEqual(plain_form(lesson(House(*ODD_ZEROS))), (ODD_ZEROS, [], 5))
        # Lit where the word ends with 0, 1.
        house = (2, [[1, 0], [1, 2], [1, 0]], [False, False, True])
        self.assertEqual(plain_form(lesson(House(*house))), (house, [[0, 1]], 14))

    def test_one_room(self):
        for doors in range(1, 7):
            self.assertEqual(plain_form(lesson(all_lit(doors))), (fields(all_lit(doors)), [], doors + 1))

    def test_small_houses(self):
        for doors, rooms, step in ((1, 1, 1), (1, 2, 1), (1, 3, 1), (1, 4, 5), (2, 1, 1), (2, 2, 1), (2, 3, 13),
                                   (3, 1, 1), (3, 2, 1), (4, 1, 1), (4, 2, 7), (5, 1, 1), (5, 2, 29),
                                   (6, 1, 1), (6, 2, 131)):
            for house in itertools.islice(every_house(doors, rooms), 0, None, step):
                self.hold(house)
                self.assertIsNone(plain_difference(lesson(house)[0], house))

    def test_drawn_houses(self):
        for house in drawn_houses(20, 16):
            self.hold(house)

    def test_rooms_that_are_alike_or_not_reached(self):
        for house in (ring(12, 3), ring(12, 4), ring(6, 1), looped(3, 4, 2),
                      House(1, [[0], [0], [1]], [True, False, True]),
                      House(2, [[1, 2], [2, 1], [1, 2], [0, 3]], [False, True, True, True])):
            self.hold(house)

    def test_several_words_told(self):
        source = random.Random(3)
        most = 0
        for _ in range(15):
            house = drawn_house(source, 12, 3)
            self.hold(house)
            most = max(most, len(lesson(house)[1]))
        self.assertGreater(most, 2)

    def test_rings_of_one_door(self):
        for rooms in (1, 2, 3, 4, 5, 8, 13, 24):
            for lit_each in (1, 2, 3, rooms):
                self.hold(ring(rooms, lit_each))
            self.hold(looped(0, rooms))

    def test_rings_by_hand(self):
        for rooms in (2, 3, 7, 20, 40):
            # The last room alone is lit. Of more than two rooms the first guess is all dark,
            # and told is the way to the lit one; noted are all words below twice the rooms.
            house = looped(0, rooms)
            told, noted = ([[0] * (rooms - 1)], 2 * rooms) if rooms > 2 else ([], 3)
            self.assertEqual(plain_form(lesson(house)), (fields(house), told, noted - len(told)))


class FortyRooms(unittest.TestCase):
    def test_one_door(self):
        for house in (ring(40, 40), line(40), looped(11, 29)):
            self.assertEqual(plain_form(lesson(house)), plain_lesson(house))
            self.assertEqual(lesson(house)[0].rooms(), 40)

    def test_two_doors(self):
        house = drawn_house(random.Random(5), 40, 2)
        self.assertEqual(plain_form(lesson(house)), plain_lesson(house))
        self.assertEqual(lesson(house)[0].rooms(), 40)

    def test_six_doors(self):
        house = line(40, 6)
        # Noted are 0 to 79 doors of 0, and of each of the 40 heads its 5 other
        # edges with each of the 40 tails; one of these words was told.
        self.assertEqual(plain_form(lesson(house)), (fields(house), [[0] * 39], 80 + 40 * 5 * 40 - 1))

    def test_six_doors_drawn(self):
        source = random.Random(6)
        for _ in range(3):
            house = drawn_house(source, 40, 6)
            guess, told, answered = lesson(house)
            self.assertEqual(guess.rooms(), fewest(house).rooms())
            self.assertEqual(fields(fewest(guess)), fields(fewest(house)))
            self.assertLess(len(told), 40)


class NothingHangs(unittest.TestCase):
    def test_house_tells_what_it_told(self):
        for house in itertools.chain(drawn_houses(20, 5), [line(5, 3), ring(7, 7)]):
            before = copy.deepcopy(fields(house))
            lesson(house)
            self.assertEqual(fields(house), before)

    def test_what_is_given_back_may_be_changed(self):
        house = line(5, 2)
        kept = plain_form(lesson(house))
        guess, told, answered = lesson(house)
        told[0].append(1)
        told.append([1])
        guess.ways[0][0] = 0
        guess.lamps[0] = True
        self.assertEqual(fields(house), fields(line(5, 2)))
        self.assertEqual(plain_form(lesson(house)), kept)

    def test_two_lessons_turn_nothing_of_one_another(self):
        one, other = lesson(line(4, 2)), lesson(looped(1, 3, 2))
        self.assertEqual(plain_form(one), plain_lesson(line(4, 2)))
        self.assertEqual(plain_form(other), plain_lesson(looped(1, 3, 2)))


if __name__ == "__main__":
    unittest.main()
