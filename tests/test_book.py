"""Points 1, 2 and 10: books."""

import random
import unittest

from askhouse.book import Book
from askhouse.errors import BadHouse, BadWord, SaidOtherwise
from tests.houses import words_to, wrong_words


def written():
    book = Book(3)
    book.note([2, 0], True)
    book.note([], False)
    book.note([0, 2], False)
    return book


WRITTEN = [([2, 0], True), ([], False), ([0, 2], False)]


class Making(unittest.TestCase):
    def test_one_to_six_doors(self):
        for doors in range(1, 7):
            self.assertEqual(Book(doors).doors, doors)
            self.assertEqual(Book(doors=doors).doors, doors)

    def test_other_numbers_of_doors(self):
        for doors in (0, 7, 8, 100, 400, -1, -6, -7):
            with self.subTest(doors):
                with self.assertRaises(BadHouse):
                    Book(doors)

    def test_nothing_is_noted_at_first(self):
        for doors in range(1, 7):
            self.assertEqual(Book(doors).all_said(), [])
            for word in words_to(doors, 2):
                self.assertIsNone(Book(doors).said(word))


class Noting(unittest.TestCase):
    def test_what_is_noted_is_said(self):
        book = written()
        self.assertIs(book.said([2, 0]), True)
        self.assertIs(book.said([]), False)
        self.assertIs(book.said([0, 2]), False)

    def test_nothing_is_said_of_other_words(self):
        book = written()
        for word in ([2], [0], [2, 0, 0], [0, 2, 0], [0, 0], [2, 2], [1]):
            self.assertIsNone(book.said(word))

    def test_note_gives_back_none(self):
        book = Book(2)
        self.assertIsNone(book.note([0], True))
        self.assertIsNone(book.note([0], True))
        self.assertIsNone(book.note([1], False))
        self.assertIsNone(book.note([1], False))

    def test_all_said_is_in_the_order_of_first_noting(self):
        book = written()
        self.assertEqual(book.all_said(), WRITTEN)
        book.note([1], True)
        self.assertEqual(book.all_said(), WRITTEN + [([1], True)])

    def test_kinds_given_back(self):
        said = written().all_said()
        self.assertIs(type(said), list)
        for pair in said:
            self.assertIs(type(pair), tuple)
            self.assertIs(type(pair[0]), list)
            self.assertIs(type(pair[1]), bool)

    def test_noted_once_more_alike_turns_nothing(self):
        book = written()
        for word, lit in WRITTEN:
            book.note(word, lit)
            book.note(list(word), lit)
        self.assertEqual(book.all_said(), WRITTEN)

    def test_noted_otherwise_is_refused(self):
        book = written()
        for word, lit in WRITTEN:
            with self.assertRaises(SaidOtherwise):
                book.note(word, not lit)
            self.assertEqual(book.all_said(), WRITTEN)
            self.assertIs(book.said(word), lit)

    def test_goes_on_behind_a_refusal(self):
        book = written()
        with self.assertRaises(SaidOtherwise):
            book.note([], True)
        book.note([], False)
        book.note([0], True)
        self.assertEqual(book.all_said(), WRITTEN + [([0], True)])

    def test_empty_word(self):
        for lit in (True, False):
            book = Book(1)
            book.note([], lit)
            self.assertIs(book.said([]), lit)
            self.assertIsNone(book.said([0]))
            self.assertEqual(book.all_said(), [([], lit)])
            with self.assertRaises(SaidOtherwise):
                book.note([], not lit)

    def test_words_of_four_hundred_doors(self):
        for doors in range(1, 7):
            book = Book(doors)
            word = [doors - 1] * 400
            book.note(word, True)
            book.note(word[1:], False)
            self.assertIs(book.said(word), True)
            self.assertIs(book.said([doors - 1] * 399), False)
            self.assertIsNone(book.said([doors - 1] * 398))
            self.assertEqual(book.all_said(), [(word, True), (word[1:], False)])
            with self.assertRaises(SaidOtherwise):
                book.note(word, False)

    def test_longer_words_are_not_refused(self):
        book = Book(2)
        book.note([1] * 410, True)
        self.assertIs(book.said([1] * 410), True)

    def test_two_books_hang_on_nothing(self):
        one, other = Book(2), Book(2)
        one.note([0], True)
        self.assertIsNone(other.said([0]))
        other.note([0], False)
        self.assertIs(one.said([0]), True)
        self.assertEqual(other.all_said(), [([0], False)])

    def test_many_notes_against_a_plain_list(self):
        source = random.Random(10)
        for doors in range(1, 7):
            book, plain = Book(doors), []
            for _ in range(400):
                word = [source.randrange(doors) for _ in range(source.randrange(5))]
                lit = source.randrange(2) == 0
                if (word, not lit) in plain:
                    with self.assertRaises(SaidOtherwise):
                        book.note(word, lit)
                else:
                    book.note(word, lit)
                    if (word, lit) not in plain:
                        plain.append((word, lit))
                self.assertEqual(book.all_said(), plain)
            for word in words_to(doors, 2):
                found = [lit for noted, lit in plain if noted == word]
                self.assertIs(book.said(word), found[0] if found else None)


class WrongWords(unittest.TestCase):
    def test_parts_that_are_no_door(self):
        for doors in range(1, 7):
            book = Book(doors)
            book.note([0], True)
            for word in wrong_words(doors):
                with self.subTest(doors=doors, word=word):
                    with self.assertRaises(BadWord):
                        book.said(word)
                    for lit in (True, False):
                        with self.assertRaises(BadWord):
                            book.note(word, lit)
                    self.assertEqual(book.all_said(), [([0], True)])

    def test_last_door_is_a_door(self):
        for doors in range(1, 7):
            book = Book(doors)
            book.note([doors - 1, 0], True)
            self.assertIs(book.said([doors - 1, 0]), True)


class NothingHangs(unittest.TestCase):
    def test_words_handed_in_are_not_changed(self):
        book = Book(2)
        word = [0, 1]
        book.note(word, True)
        book.said(word)
        with self.assertRaises(SaidOtherwise):
            book.note(word, False)
        self.assertEqual(word, [0, 1])
        word = [0, 2]
        with self.assertRaises(BadWord):
            book.note(word, True)
        with self.assertRaises(BadWord):
            book.said(word)
        self.assertEqual(word, [0, 2])

    def test_words_handed_in_may_be_changed_later(self):
        book = Book(2)
        word = [0, 1]
        book.note(word, True)
        word.append(1)
        word[0] = 1
        self.assertEqual(book.all_said(), [([0, 1], True)])
        self.assertIs(book.said([0, 1]), True)
        self.assertIsNone(book.said([1, 1, 1]))
        book.note(word, False)
        self.assertEqual(book.all_said(), [([0, 1], True), ([1, 1, 1], False)])

    def test_lists_given_back_may_be_changed(self):
        book = written()
        said = book.all_said()
        said[0][0].append(1)
        said[1][0].append(1)
        said.pop()
        said.append(([1], True))
        book.all_said().clear()
        self.assertEqual(book.all_said(), WRITTEN)
        self.assertIs(book.said([2, 0]), True)
        self.assertIs(book.said([]), False)
        self.assertIsNone(book.said([1]))

    def test_lists_given_back_stay_as_they_are(self):
        book = written()
        said = book.all_said()
        book.note([1], True)
        self.assertEqual(said, WRITTEN)


if __name__ == "__main__":
    unittest.main()
