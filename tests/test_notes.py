"""Points 1, 4 and 17: notes."""

import copy
import itertools
import re
import unittest

from askhouse.errors import BadText
from askhouse.house import House
from askhouse.notes import read, shown
from tests.houses import ODD_ZEROS, all_lit, drawn_houses, fields, line, looped, ring, small_houses

NUMBER = "(0|[1-9][0-9]*)"
WRITTEN = re.compile(f"doors {NUMBER}(\n(lit|dark)( {NUMBER})*)*")
TEXTS = ("doors 1\nlit 0", "doors 2\ndark 1 0\nlit 0 1", "doors 1\n" + "\n".join(["lit 10"] * 11),
         "doors 6\nlit 0 0 0 0 0 0\ndark 1 0 1 0 1 0")


def plain_read(text):
    """The fields of the house that a text tells, None if it is none."""
    if not WRITTEN.fullmatch(text):
        return None
    first, *rows = text.split("\n")
    doors = int(first.split()[1])
    ways = [[int(way) for way in row.split()[1:]] for row in rows]
    if not (1 <= doors <= 6 and 1 <= len(ways) <= 400):
        return None
    if any(len(row) != doors or max(row) >= len(ways) for row in ways):
        return None
    return (doors, ways, [row.startswith("lit") for row in rows])


class Shown(unittest.TestCase):
    def test_one_room(self):
        self.assertEqual(shown(all_lit(1)), "doors 1\nlit 0")
        self.assertEqual(shown(all_lit(6)), "doors 6\nlit 0 0 0 0 0 0")
        self.assertEqual(shown(House(1, [[0]], [False])), "doors 1\ndark 0")
        self.assertEqual(shown(House(6, [[0] * 6], [False])), "doors 6\ndark 0 0 0 0 0 0")

    def test_argument(self):
        self.assertEqual(shown(house=House(*ODD_ZEROS)), "doors 2\ndark 1 0\nlit 0 1")

    def test_numbers_of_several_figures(self):
        rows = ["doors 1"] + ["dark " + str(room) for room in range(1, 120)] + ["lit 119"]
        self.assertEqual(shown(line(120)), "\n".join(rows))

    def test_four_hundred_rooms(self):
        rows = ["doors 6"] + [f"dark {room} {room} {room} {room} {room} {room}" for room in range(1, 400)]
        self.assertEqual(shown(looped(0, 400, 6)), "\n".join(rows + ["lit 0 0 0 0 0 0"]))
        rows = ["doors 1"] + [f"lit {room}" for room in range(1, 400)]
        self.assertEqual(shown(ring(400, 1)), "\n".join(rows + ["lit 0"]))

    def test_rooms_that_are_alike_or_not_reached_are_written(self):
        self.assertEqual(shown(House(1, [[0], [0], [2]], [True, True, False])), "doors 1\nlit 0\nlit 0\ndark 2")

    def test_houses_told_apart_only_by_ways_or_lamps(self):
        texts = [shown(house) for house in small_houses()]
        self.assertEqual(len(set(texts)), len(texts))

    def test_house_is_not_changed(self):
        for house in drawn_houses(20, 2):
            before = copy.deepcopy(fields(house))
            self.assertIs(type(shown(house)), str)
            self.assertEqual(fields(house), before)


class Read(unittest.TestCase):
    def test_by_hand(self):
        self.assertEqual(fields(read("doors 1\nlit 0")), (1, [[0]], [True]))
        self.assertEqual(fields(read(text="doors 2\ndark 1 0\nlit 0 1")), ODD_ZEROS)
        self.assertEqual(fields(read("doors 6\ndark 0 0 0 0 0 0")), (6, [[0] * 6], [False]))

    def test_kinds_given_back(self):
        house = read("doors 2\ndark 1 0\nlit 0 1")
        self.assertIs(type(house), House)
        self.assertIs(type(house.doors), int)
        for row in house.ways:
            self.assertEqual([type(way) for way in row], [int, int])
        self.assertEqual([type(lit) for lit in house.lamps], [bool, bool])

    def test_what_is_written_is_read(self):
        houses = itertools.chain(small_houses(), drawn_houses(200, 17))
        for house in houses:
            self.assertEqual(fields(read(shown(house))), fields(house))

    def test_one_and_four_hundred_rooms(self):
        for doors in range(1, 7):
            for house in (all_lit(doors), line(400, doors), looped(200, 200, doors), line(399, doors)):
                self.assertEqual(fields(read(shown(house))), fields(house))

    def test_two_readings_hang_on_nothing(self):
        one, other = read(TEXTS[1]), read(TEXTS[1])
        one.ways[0][0] = 0
        one.lamps[0] = True
        self.assertEqual(fields(other), ODD_ZEROS)
        self.assertEqual(fields(read(TEXTS[1])), ODD_ZEROS)


class Refused(unittest.TestCase):
    def refuse(self, *texts):
        for text in texts:
            with self.subTest(text[:80]):
                with self.assertRaises(BadText):
                    read(text)

    def hold(self, text):
        house = plain_read(text)
        if house is None:
            self.refuse(text)
        else:
            self.assertEqual(fields(read(text)), house)
        return house is None

    def test_signs_too_many_at_every_place(self):
        refused = 0
        for text in TEXTS:
            for at in range(len(text) + 1):
                for sign in (" ", "\n", "  ", "\n\n", " \n", "\n ", "0", "1", "-", "+", "_", ".", "x", "l", "\nlit 0"):
                    refused += self.hold(text[:at] + sign + text[at:])
        self.assertGreater(refused, 2000)

    def test_blanks_and_line_ends_too_many_at_every_place(self):
        for text in TEXTS:
            for at in range(len(text) + 1):
                self.refuse(text[:at] + " " + text[at:], text[:at] + "\n" + text[at:])

    def test_signs_missing_at_every_place(self):
        for text in TEXTS:
            for at in range(len(text)):
                for size in (1, 2, 3):
                    self.hold(text[:at] + text[at + size:])

    def test_blanks_and_line_ends_missing_at_every_place(self):
        for text in TEXTS:
            for at, sign in enumerate(text):
                if sign in " \n":
                    self.refuse(text[:at] + text[at + 1:], text[:at] + {" ": "\n", "\n": " "}[sign] + text[at + 1:])

    def test_other_signs_at_every_place(self):
        for text in TEXTS:
            for at in range(len(text)):
                for code in [10] + list(range(32, 127)):
                    self.hold(text[:at] + chr(code) + text[at + 1:])

    def test_beginnings(self):
        for text in TEXTS:
            for at in range(len(text)):
                self.hold(text[:at])
                self.hold(text[at:])

    def test_empty_and_blank_texts(self):
        self.refuse("", " ", "\n", "\n\n", "  ", " \n ", "0", "lit", "dark", "doors")

    def test_other_first_rows(self):
        for first in ("", "doors", "doors ", "door 1", "Doors 1", "DOORS 1", "doors1", "doors  1", " doors 1",
                      "doors 1 ", "rooms 1", "1", "1 doors", "doors: 1", "doors 1 1", "doors one", "doors x", "lit 0",
                      "doors 1\n", "\ndoors 1", "doors 1\ndoors 1", "doors doors 1", "doors -1", "doors +1", "doors 01",
                      "doors 1.", "doors 1.0", "doors 0x1", "doors 1_0", "doors 1e0", "doors \n1", "# doors 1",
                      "doors (1)"):
            self.refuse(first + "\nlit 0")
        self.refuse("lit 0")

    def test_other_words_for_lamps(self):
        for lamp in ("", "Lit", "LIT", "lits", "li", "it", "true", "True", "1", "0", "on", "light", "Dark", "DARK",
                     "darks", "ark", "dar", "d", "l", "litdark", "lit dark", "lit lit", "not lit", "lit,", "dark:",
                     "-", "None"):
            self.refuse("doors 1\n" + lamp + " 0", "doors 1\nlit 0\n" + lamp + " 0")
        self.refuse("doors 1\n0", "doors 1\n 0", "doors 1\n0 lit")

    def test_other_numbers_for_ways(self):
        for way in ("", " ", "00", "01", "001", "000", "-0", "+0", "-1", "+1", "1.", "1.0", ".1", "0x0", "0b0", "0o0",
                    "1_0", "1_", "_1", "1e0", "a", "O", "l", "one", "nought", "0,", "0;", "(0)", "'0'", "1 ", " 1",
                    "--1", "1-", "None", "True", "0" * 400, "0" * 399 + "1", "1/1", "1j", "1L", "#0"):
            self.refuse(f"doors 1\nlit {way}\nlit 0", f"doors 1\nlit 0\nlit {way}")
            self.refuse(f"doors 2\nlit {way} 0\nlit 0 0", f"doors 2\nlit 0 {way}\nlit 0 0")

    def test_numbers_of_very_many_figures(self):
        for size in (4, 10, 20, 100, 4299, 4300, 4301, 5000, 19000):
            for figures in ("1" * size, "9" * size, "0" * size, "0" * (size - 1) + "1", "1" + "0" * (size - 1),
                            "-" + "1" * size, "+" + "0" * size):
                self.refuse("doors 1\nlit " + figures, "doors " + figures + "\nlit 0", "doors 1\nlit 0\nlit " + figures)

    def test_ways_too_many_or_missing(self):
        for doors in range(1, 7):
            for ways in range(9):
                row = "lit" + " 0" * ways
                whole = "lit" + " 0" * doors
                if ways != doors:
                    self.refuse(f"doors {doors}\n{row}")
                    self.refuse(f"doors {doors}\n{row}\n{whole}", f"doors {doors}\n{whole}\n{row}")

    def test_ways_that_are_no_rooms(self):
        self.refuse("doors 1\nlit 1", "doors 1\nlit 2", "doors 1\nlit 400", "doors 1\nlit 399")
        self.refuse("doors 2\nlit 0 1\nlit 0 2", "doors 2\nlit 2 0\nlit 0 0", "doors 2\nlit 0 10\nlit 0 0")
        for way in ("400", "401", "999", "1000", "3990"):
            self.refuse("doors 1\n" + "dark 399\n" * 399 + "lit " + way)

    def test_other_numbers_of_doors(self):
        for doors in (0, 7, 8, 9, 10, 11, 16, 60, 66, 100, 399, 400, 401):
            self.refuse(f"doors {doors}", f"doors {doors}\nlit" + " 0" * doors, f"doors {doors}\nlit 0")

    def test_no_rooms(self):
        for doors in range(8):
            self.refuse(f"doors {doors}", f"doors {doors}\n", f"doors {doors}\n\n", f"doors {doors}\n ")

    def test_more_than_four_hundred_rooms(self):
        for doors in range(1, 7):
            row = "\nlit" + " 0" * doors
            self.assertEqual(read(f"doors {doors}" + row * 400).rooms(), 400)
            for rooms in (401, 402, 500, 1000):
                self.refuse(f"doors {doors}" + row * rooms)
        self.refuse("doors 1" + "\nlit 400" * 401)

    def test_line_ends_about_the_text(self):
        for text in TEXTS:
            self.refuse(text + "\n", "\n" + text, text + "\n\n", text + " ", " " + text, text + "\n ")
            self.refuse(text.replace("\n", "\n\n"), text.replace(" ", "  "), text.replace("\n", " \n"))
            self.refuse(text + text, text + "\n" + text)


if __name__ == "__main__":
    unittest.main()
