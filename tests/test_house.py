"""Points 1, 2 and 4: houses, walks, and what is refused."""

import unittest

from askhouse.errors import BadHouse, BadWord
from askhouse.house import House
from tests.houses import fields, line, small_houses, walk, words_to

TURNSTILE = (2, [[1, 0], [2, 0], [2, 1]], [False, True, False])


class Making(unittest.TestCase):
    def refused(self, doors, ways, lamps):
        with self.assertRaises(BadHouse):
            House(doors, ways, lamps)

    def test_fields_are_as_handed_in(self):
        self.assertEqual(fields(House(*TURNSTILE)), TURNSTILE)

    def test_fields_are_lists(self):
        house = House(*TURNSTILE)
        self.assertIs(type(house.ways), list)
        self.assertEqual([type(row) for row in house.ways], [list] * 3)
        self.assertIs(type(house.lamps), list)

    def test_arguments_have_their_names(self):
        house = House(doors=1, ways=[[0]], lamps=[True])
        self.assertEqual(fields(house), (1, [[0]], [True]))

    def test_one_to_six_doors(self):
        for doors in range(1, 7):
            with self.subTest(doors):
                house = House(doors, [[1] * doors, [0] * doors], [True, False])
                self.assertEqual(house.doors, doors)

    def test_other_numbers_of_doors(self):
        for doors in (0, 7, 8, 100, -1, -6):
            with self.subTest(doors):
                self.refused(doors, [[0] * max(doors, 0)], [True])

    def test_one_to_four_hundred_rooms(self):
        for rooms in (1, 2, 399, 400):
            with self.subTest(rooms):
                house = House(2, [[0, rooms - 1]] * rooms, [False] * rooms)
                self.assertEqual(house.rooms(), rooms)

    def test_no_room(self):
        for doors in range(1, 7):
            self.refused(doors, [], [])

    def test_no_room_but_a_lamp(self):
        self.refused(1, [], [True])

    def test_more_than_four_hundred_rooms(self):
        for rooms in (401, 402, 1000):
            with self.subTest(rooms):
                self.refused(1, [[0]] * rooms, [False] * rooms)

    def test_lamps_more_or_less(self):
        doors, ways, lamps = TURNSTILE
        self.refused(doors, ways, lamps + [True])
        self.refused(doors, ways, lamps[:-1])
        self.refused(doors, ways, [])
        self.refused(1, [[0]] * 400, [True] * 401)

    def test_ways_more_or_less_in_each_row(self):
        doors, ways, lamps = TURNSTILE
        for room in range(3):
            for row in ([], ways[room][:1], ways[room] + [0]):
                with self.subTest(room=room, row=row):
                    self.refused(doors, ways[:room] + [row] + ways[room + 1:], lamps)

    def test_rows_alike_but_not_as_long_as_doors(self):
        self.refused(1, [[0, 0], [0, 0]], [True, False])
        self.refused(3, [[0, 0], [0, 0]], [True, False])

    def test_ways_that_are_no_room(self):
        for room in range(3):
            for door in range(2):
                for way in (-1, -3, 3, 4, 400):
                    with self.subTest(room=room, door=door, way=way):
                        ways = [list(row) for row in TURNSTILE[1]]
                        ways[room][door] = way
                        self.refused(2, ways, TURNSTILE[2])

    def test_way_behind_the_last_of_four_hundred_rooms(self):
        self.refused(1, [[0]] * 399 + [[400]], [True] * 400)
        self.assertEqual(House(1, [[0]] * 399 + [[399]], [True] * 400).ways[399], [399])


class Walks(unittest.TestCase):
    def test_ordinary_walk(self):
        house = House(*TURNSTILE)
        self.assertEqual(house.trail([0, 0, 0, 1, 1]), [0, 1, 2, 2, 1, 0])
        self.assertEqual(house.room_of([0, 0, 0, 1]), 1)
        self.assertIs(house.says([0, 0, 0, 1]), True)
        self.assertIs(house.says([0, 0, 0]), False)

    def test_empty_word_stays_in_room_nought(self):
        for lit in (True, False):
            house = House(1, [[1], [1]], [lit, not lit])
            self.assertEqual(house.trail([]), [0])
            self.assertEqual(house.room_of([]), 0)
            self.assertIs(house.says([]), lit)

    def test_word_of_four_hundred_doors(self):
        house = line(400, 6)
        word = [0] * 399 + [5]
        self.assertEqual(house.trail(word), list(range(400)) + [399])
        self.assertEqual(house.room_of(word), 399)
        self.assertIs(house.says(word), True)
        self.assertIs(house.says([5] * 2 + [0] * 398), False)

    def test_longer_words_are_not_refused(self):
        house = line(400)
        self.assertEqual(len(house.trail([0] * 410)), 411)
        self.assertIs(house.says([0] * 410), True)

    def test_words_of_small_houses(self):
        for house in small_houses():
            for word in words_to(house.doors, 2):
                rooms = [walk(house, 0, word[:size]) for size in range(len(word) + 1)]
                self.assertEqual(house.trail(word), rooms)
                self.assertEqual(house.room_of(word), rooms[-1])
                self.assertIs(house.says(word), house.lamps[rooms[-1]])

    def test_parts_that_are_no_door(self):
        for doors in range(1, 7):
            house = House(doors, [[0] * doors], [True])
            for door in (-1, -doors, doors, doors + 1, 400, -400):
                for word in ([door], [door, 0], [0, door], [0] * 200 + [door] + [0] * 199):
                    for call in (house.trail, house.room_of, house.says):
                        with self.subTest(doors=doors, door=door, call=call.__name__):
                            with self.assertRaises(BadWord):
                                call(word)

    def test_last_door_is_a_door(self):
        for doors in range(1, 7):
            house = House(doors, [[0] * (doors - 1) + [1]] * 2, [False, True])
            self.assertIs(house.says([doors - 1]), True)


class NothingHangs(unittest.TestCase):
    def test_what_is_handed_in_is_not_changed(self):
        ways = [[1, 0], [2, 0], [2, 1]]
        lamps = [False, True, False]
        word = [0, 0, 1]
        house = House(2, ways, lamps)
        house.trail(word)
        house.room_of(word)
        house.says(word)
        self.assertEqual((2, ways, lamps), TURNSTILE)
        self.assertEqual(word, [0, 0, 1])

    def test_what_was_handed_in_may_be_changed(self):
        ways = [[1, 0], [2, 0], [2, 1]]
        lamps = [False, True, False]
        house = House(2, ways, lamps)
        ways[0][0] = 2
        ways[1].append(9)
        ways.pop()
        lamps[1] = False
        lamps.append(True)
        self.assertEqual(fields(house), TURNSTILE)
        self.assertEqual(house.rooms(), 3)
        self.assertIs(house.says([0]), True)

    def test_one_row_handed_in_for_many_rooms(self):
        row = [1]
        house = House(1, [row, row], [False, True])
        row[0] = 0
        self.assertEqual(house.ways, [[1], [1]])

    def test_refused_lists_are_not_changed(self):
        ways = [[1, 0], [2]]
        lamps = [True]
        with self.assertRaises(BadHouse):
            House(2, ways, lamps)
        self.assertEqual((ways, lamps), ([[1, 0], [2]], [True]))

    def test_trail_given_back_may_be_changed(self):
        house = House(*TURNSTILE)
        for word in ([], [0, 0]):
            before = list(house.trail(word))
            house.trail(word).clear()
            house.trail(word)[0] = 2
            self.assertEqual(house.trail(word), before)
        self.assertEqual(fields(house), TURNSTILE)

    def test_word_may_be_changed_behind_the_call(self):
        house = House(*TURNSTILE)
        word = [0, 0]
        trail = house.trail(word)
        word.append(1)
        self.assertEqual(trail, [0, 1, 2])


if __name__ == "__main__":
    unittest.main()
