"""Points 3, 5, 6 and 7: reached rooms, parted rooms, the fewest house."""

import unittest

from askhouse.errors import NoRoom
from askhouse.fewest import apart, fewest, least_words, reached
from askhouse.house import House
from tests.houses import (drawn_houses, fields, joined, line, parts, plain_apart_by_pairs, plain_apart_by_words,
                          plain_fewest, plain_least_words, ring, small_houses, words_to)

# Rooms 3 and 5 are not reached; 2 and 4 are alike; room 4 is met ahead of 1.
MANSION = (2, [[4, 1], [2, 2], [0, 2], [5, 0], [0, 4], [3, 3]], [False, False, True, True, True, False])


class Reached(unittest.TestCase):
    def test_mansion(self):
        house = House(*MANSION)
        self.assertEqual(reached(house), [0, 4, 1, 2])
        self.assertEqual(least_words(house), [[], [0], [1], [1, 0]])

    def test_lesser_door_of_an_earlier_room_comes_first(self):
        # Room 3 is led to by [1, 0] and [0, 1], room 4 by [1, 1] and [2].
        house = House(3, [[2, 1, 4], [3, 4, 0], [2, 3, 2], [0, 0, 0], [0, 0, 0]], [True] * 5)
        self.assertEqual(reached(house), [0, 2, 1, 4, 3])
        self.assertEqual(least_words(house), [[], [0], [1], [2], [0, 1]])

    def test_shorter_goes_ahead_of_a_lesser_door(self):
        house = House(2, [[1, 2], [2, 1], [0, 0]], [True] * 3)
        self.assertEqual(least_words(house), [[], [0], [1]])

    def test_one_room(self):
        for doors in range(1, 7):
            house = House(doors, [[0] * doors], [True])
            self.assertEqual(reached(house), [0])
            self.assertEqual(least_words(house), [[]])

    def test_only_room_nought_of_many(self):
        house = House(1, [[0]] + [[1]] * 399, [True] * 400)
        self.assertEqual(reached(house), [0])
        self.assertEqual(least_words(house), [[]])

    def test_four_hundred_rooms_in_a_line(self):
        house = line(400, 6)
        self.assertEqual(reached(house), list(range(400)))
        self.assertEqual(least_words(house), [[0] * size for size in range(400)])

    def test_small_houses(self):
        for house in small_houses():
            found = plain_least_words(house)
            self.assertEqual(reached(house), list(found))
            self.assertEqual(least_words(house), list(found.values()))

    def test_kinds_given_back(self):
        house = House(*MANSION)
        self.assertIs(type(reached(house)), list)
        self.assertIs(type(least_words(house)), list)
        self.assertEqual({type(word) for word in least_words(house)}, {list})


class Apart(unittest.TestCase):
    def test_lamps_unlike_are_parted_by_the_empty_word(self):
        self.assertEqual(apart(House(*MANSION), 0, 2), [])
        self.assertEqual(apart(House(*MANSION), 2, 0), [])

    def test_mansion(self):
        house = House(*MANSION)
        self.assertEqual(apart(house, 0, 1), [1])
        self.assertIsNone(apart(house, 2, 4))

    def test_rooms_that_are_not_reached(self):
        house = House(*MANSION)
        self.assertEqual(apart(house, 3, 2), [1])
        self.assertEqual(apart(house, 5, 0), [1])
        self.assertEqual(apart(house, 5, 1), [0, 1])

    def test_a_room_is_alike_to_itself(self):
        house = House(*MANSION)
        for room in range(6):
            self.assertIsNone(apart(house, room, room))

    def test_least_of_words_as_long(self):
        # Doors 1 and 2 both part rooms 0 and 1, door 0 does not.
        house = House(3, [[0, 2, 2], [1, 3, 3], [2, 2, 2], [3, 3, 3]], [False, False, True, False])
        self.assertEqual(apart(house, 0, 1), [1])

    def test_shorter_word_goes_ahead_of_a_lesser_door(self):
        # Parted by [0, 0] and by [1].
        house = House(2, [[2, 4], [3, 5], [4, 4], [5, 5], [4, 4], [5, 5]], [False] * 4 + [True, False])
        self.assertEqual(apart(house, 0, 1), [1])

    def test_parted_only_by_a_long_word(self):
        house = line(400)
        self.assertEqual(apart(house, 0, 1), [0] * 398)
        self.assertEqual(apart(house, 398, 0), [0])
        self.assertEqual(apart(line(400, 6), 1, 0), [0] * 398)

    def test_four_hundred_alike(self):
        ways = [[(room * 7 + door) % 400 for door in range(6)] for room in range(400)]
        house = House(6, ways, [True] * 400)
        self.assertIsNone(apart(house, 0, 399))

    def test_alike_though_they_lead_to_other_rooms(self):
        self.assertIsNone(apart(ring(400, 2), 0, 2))
        self.assertEqual(apart(ring(400, 2), 0, 1), [])
        self.assertEqual(apart(ring(400, 200), 1, 2), [0] * 198)

    def test_small_houses(self):
        for house in small_houses():
            for one in range(house.rooms()):
                for other in range(one):
                    word = plain_apart_by_words(house, one, other)
                    self.assertEqual(apart(house, one, other), word)
                    self.assertEqual(apart(house, other, one), word)

    def test_drawn_houses(self):
        for house in drawn_houses(300, 1):
            for one in range(house.rooms()):
                for other in range(house.rooms()):
                    self.assertEqual(apart(house, one, other), plain_apart_by_pairs(house, one, other))

    def test_rooms_that_are_not_there(self):
        for house in (House(*MANSION), line(1), line(400)):
            rooms = house.rooms()
            for room in (-1, -rooms, rooms, rooms + 1, 1000):
                for one, other in ((room, 0), (0, room), (room, room)):
                    with self.subTest(rooms=rooms, one=one, other=other):
                        with self.assertRaises(NoRoom):
                            apart(house, one, other)

    def test_last_room_is_there(self):
        self.assertEqual(apart(line(400), 399, 0), [])


class Fewest(unittest.TestCase):
    def test_mansion(self):
        small = fewest(House(*MANSION))
        self.assertEqual(fields(small), (2, [[1, 2], [0, 1], [1, 1]], [False, True, False]))

    def test_gives_back_a_house(self):
        self.assertIs(type(fewest(House(*MANSION))), House)

    def test_one_room(self):
        for doors in range(1, 7):
            for lit in (True, False):
                self.assertEqual(fields(fewest(House(doors, [[0] * doors], [lit]))), (doors, [[0] * doors], [lit]))

    def test_own_fewest_house(self):
        for house in (line(2), line(400), line(400, 6), ring(400, 400)):
            self.assertEqual(fields(fewest(house)), fields(house))

    def test_all_lit_or_all_dark_shrinks_to_one_room(self):
        for lit in (True, False):
            ways = [[(room * 7 + door) % 400 for door in range(6)] for room in range(400)]
            self.assertEqual(fields(fewest(House(6, ways, [lit] * 400))), (6, [[0] * 6], [lit]))

    def test_ring_shrinks(self):
        self.assertEqual(fields(fewest(ring(400, 2))), (1, [[1], [0]], [True, False]))
        self.assertEqual(fields(fewest(ring(400, 200))), fields(ring(200, 200)))

    def test_rooms_that_are_not_reached_go(self):
        house = House(1, [[0], [2], [1]], [True, False, True])
        self.assertEqual(fields(fewest(house)), (1, [[0]], [True]))

    def test_rooms_are_numbered_anew(self):
        house = House(1, [[3], [1], [1], [2]], [False, True, False, False])
        self.assertEqual(fields(fewest(house)), (1, [[1], [2], [3], [3]], [False, False, False, True]))

    def test_only_the_order_is_not_its_own(self):
        house = House(2, [[2, 1], [1, 1], [2, 2]], [False, True, False])
        self.assertEqual(fields(fewest(house)), (2, [[1, 2], [1, 1], [2, 2]], [False, False, True]))

    def test_small_houses_by_plain_search(self):
        for house in small_houses():
            self.assertEqual(fields(fewest(house)), plain_fewest(house))

    def test_what_the_document_says_of_it(self):
        for house in drawn_houses(200, 2):
            small = fewest(house)
            for word in words_to(house.doors, 4):
                self.assertIs(small.says(word), house.says(word))
            self.assertEqual(reached(small), list(range(small.rooms())))
            for one in range(small.rooms()):
                for other in range(one):
                    self.assertTrue(parts(small, one, other, apart(small, one, other)))
            self.assertEqual(fields(fewest(small)), fields(small))

    def test_drawn_houses_say_the_same_of_every_word(self):
        for house in drawn_houses(200, 3):
            small = fewest(house)
            self.assertIsNone(plain_apart_by_pairs(joined(house, small), 0, house.rooms()))


class NothingHangs(unittest.TestCase):
    def test_the_house_is_not_changed(self):
        house = House(*MANSION)
        least_words(house)
        reached(house)
        apart(house, 0, 1)
        apart(house, 2, 4)
        fewest(house)
        self.assertEqual(fields(house), MANSION)

    def test_lists_given_back_may_be_changed(self):
        house = House(*MANSION)
        least_words(house)[0].append(9)
        least_words(house).clear()
        reached(house)[0] = 5
        apart(house, 0, 1).clear()
        apart(house, 0, 2).append(9)
        self.assertEqual(fields(house), MANSION)
        self.assertEqual(least_words(house), [[], [0], [1], [1, 0]])
        self.assertEqual(reached(house), [0, 4, 1, 2])
        self.assertEqual(apart(house, 0, 1), [1])
        self.assertEqual(apart(house, 0, 2), [])

    def test_words_of_one_list_hang_on_no_other(self):
        words = least_words(House(*MANSION))
        words[2].append(9)
        words[0].append(8)
        self.assertEqual(words, [[8], [0], [1, 9], [1, 0]])

    def test_fewest_house_shares_no_list(self):
        for house in (line(3), House(*MANSION)):
            small = fewest(house)
            self.assertIsNot(small, house)
            self.assertIsNot(small.lamps, house.lamps)
            self.assertIsNot(small.ways, house.ways)
            for row in small.ways:
                self.assertFalse(any(row is other for other in house.ways))


if __name__ == "__main__":
    unittest.main()
