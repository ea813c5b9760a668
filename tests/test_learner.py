"""Points 1 to 3 and 11 to 15: learners."""

import copy
import itertools
import random
import unittest

from askhouse.book import Book
from askhouse.compare import difference
from askhouse.errors import BadHouse, BadWord, NotAsked, NotWrong, NotYet, SaidOtherwise
from askhouse.fewest import fewest
from askhouse.house import House
from askhouse.learner import Learner
from tests.houses import (
    ODD_ZEROS, PlainLearner, all_lit, drawn_houses, every_house, fields, line, looped, ring, words_to, wrong_words)

# Lit where the word ends with 0, 1: with one tail its three kinds of rooms look like two.
ENDS_WITH_ZERO_ONE = (2, [[1, 0], [1, 2], [1, 0]], [False, False, True])


def parts_of(learner):
    return (learner.question(), learner.heads, learner.tails, learner.book.all_said())


def state(learner):
    return copy.deepcopy(parts_of(learner))


def answer_all(learner, house):
    while learner.question() is not None:
        learner.answer(house.says(learner.question()))


def answered_by(house):
    learner = Learner(house.doors)
    answer_all(learner, house)
    return learner


def taught_by(house):
    learner = answered_by(house)
    while difference(learner.guess(), house) is not None:
        word = difference(learner.guess(), house)
        learner.wrong(word, house.says(word))
        answer_all(learner, house)
    return learner


def drawn_word(source, doors, shortest, longest):
    return [source.randrange(doors) for _ in range(source.randrange(shortest, longest + 1))]


def longer_difference(source, guess, house):
    """A word of which they say unlike, longer than the least one where drawing finds such a one."""
    least = difference(guess, house)
    for _ in range(60):
        word = least and drawn_word(source, house.doors, len(least) + 1, len(least) + 6)
        if word and guess.says(word) != house.says(word):
            return word
    return least


def some_houses():
    for doors, rooms, step in ((1, 1, 1), (1, 2, 1), (1, 3, 2), (2, 1, 1), (2, 2, 1), (2, 3, 61), (3, 2, 5), (6, 1, 1)):
        yield from itertools.islice(every_house(doors, rooms), 0, None, step)
    for rooms in (4, 7, 12):
        yield line(rooms)
        yield line(rooms, 3)
        yield ring(rooms, rooms)
        yield looped(2, rooms - 2, 2)
    yield from drawn_houses(24, 11)


class Sided(unittest.TestCase):
    """A learner beside a plain one that takes the same turns."""

    def begin(self, doors):
        self.learner, self.plain = Learner(doors), PlainLearner(doors)
        self.told = 0
        self.hold()

    def hold(self):
        self.assertEqual(parts_of(self.learner), self.plain.state())
        if self.learner.question() is None:
            guess = self.learner.guess()
            self.assertEqual(fields(guess), fields(self.plain.guess()))
            for word, lit in self.learner.book.all_said():
                self.assertIs(guess.says(word), lit)

    def answer(self, lit):
        self.assertIsNone(self.learner.answer(lit))
        self.plain.answer(lit)
        self.hold()

    def tell(self, word, lit):
        self.assertIsNone(self.learner.wrong(list(word), lit))
        self.plain.wrong(word, lit)
        self.told += 1
        self.hold()

    def answer_by(self, house):
        while self.learner.question() is not None:
            self.answer(house.says(self.learner.question()))


class AtFirst(unittest.TestCase):
    def test_fields(self):
        for doors in range(1, 7):
            for learner in (Learner(doors), Learner(doors=doors)):
                self.assertEqual(learner.doors, doors)
                self.assertIs(type(learner.book), Book)
                self.assertEqual(learner.book.doors, doors)
                self.assertEqual(learner.book.all_said(), [])
                self.assertEqual(learner.heads, [[]])
                self.assertEqual(learner.tails, [[]])

    def test_first_question_is_the_empty_word(self):
        for doors in range(1, 7):
            self.assertEqual(Learner(doors).question(), [])

    def test_first_questions_are_the_lines_in_their_order(self):
        for doors in range(1, 7):
            learner, asked = Learner(doors), []
            while learner.question() is not None:
                asked.append(learner.question())
                learner.answer(True)
            self.assertEqual(asked, [[]] + [[door] for door in range(doors)])
            self.assertEqual(fields(learner.guess()), fields(all_lit(doors)))

    def test_other_numbers_of_doors(self):
        for doors in (0, 7, 8, 100, 400, -1, -6, -7):
            with self.subTest(doors):
                with self.assertRaises(BadHouse):
                    Learner(doors)


class ByHand(unittest.TestCase):
    def test_odd_zeros(self):
        learner = Learner(2)
        for word, lit in (([], False), ([0], True), ([1], False)):
            self.assertEqual(learner.question(), word)
            self.assertEqual(learner.heads, [[]])
            learner.answer(lit)
        self.assertEqual(learner.heads, [[], [0]])
        for word, lit in (([0, 0], False), ([0, 1], True)):
            self.assertEqual(learner.question(), word)
            learner.answer(lit)
        self.assertIsNone(learner.question())
        self.assertEqual(learner.heads, [[], [0]])
        self.assertEqual(learner.tails, [[]])
        self.assertEqual(fields(learner.guess()), ODD_ZEROS)

    def test_told_word(self):
        house = House(*ENDS_WITH_ZERO_ONE)
        learner = answered_by(house)
        self.assertEqual(state(learner), (None, [[]], [[]], [([], False), ([0], False), ([1], False)]))
        self.assertEqual(fields(learner.guess()), (2, [[0, 0]], [False]))
        learner.wrong([0, 1], True)
        # [1] stands ahead of [0, 1], and the edge [0] isn't a head before its row is known.
        self.assertEqual(learner.tails, [[], [1], [0, 1]])
        self.assertEqual(learner.heads, [[]])
        asked = []
        while learner.question() is not None:
            asked.append((learner.question(), len(learner.heads)))
            learner.answer(house.says(learner.question()))
        self.assertEqual(asked, [
            ([0, 0, 1], 1), ([1, 1], 1), ([1, 0, 1], 1),
            ([0, 0], 2), ([0, 0, 0, 1], 2), ([0, 1, 1], 2), ([0, 1, 0, 1], 2),
            ([0, 1, 0], 3), ([0, 1, 0, 0, 1], 3), ([0, 1, 1, 1], 3), ([0, 1, 1, 0, 1], 3)])
        self.assertEqual(learner.heads, [[], [0], [0, 1]])
        self.assertEqual(fields(learner.guess()), ENDS_WITH_ZERO_ONE)

    def test_told_word_whose_ends_are_partly_tails(self):
        house = line(4, 2)
        learner = answered_by(house)
        learner.wrong([0, 0, 1, 0], True)
        self.assertEqual(learner.tails, [[], [0], [1, 0], [0, 1, 0], [0, 0, 1, 0]])
        answer_all(learner, house)
        before = list(learner.tails)
        word = [1, 0, 0, 1, 1, 0]
        learner.wrong(word, not learner.guess().says(word))
        self.assertEqual(learner.tails, before + [[1, 1, 0], [0, 1, 1, 0], [0, 0, 1, 1, 0], word])

    def test_no_noted_word_is_asked(self):
        # Of one door, most words stand in the rows of several lines.
        learner = Learner(1)
        learner.answer(True)
        learner.answer(True)
        learner.wrong([0, 0, 0], False)
        asked = []
        for lit in (True, True, True, True, False):
            asked.append((len(learner.question()), len(learner.heads)))
            learner.answer(lit)
        self.assertEqual(asked, [(2, 1), (4, 1), (5, 2), (6, 3), (7, 4)])
        self.assertIsNone(learner.question())
        self.assertEqual(learner.heads, [[], [0], [0, 0], [0, 0, 0]])
        self.assertEqual(fields(learner.guess()), fields(looped(0, 4))[:2] + ([True, True, True, False],))

    def test_kinds_given_back(self):
        learner = Learner(2)
        self.assertIs(type(learner.question()), list)
        learner = taught_by(House(*ENDS_WITH_ZERO_ONE))
        self.assertIs(type(learner.guess()), House)
        for words in (learner.heads, learner.tails):
            self.assertIs(type(words), list)
            for word in words:
                self.assertIs(type(word), list)
        for lit in learner.guess().lamps:
            self.assertIs(type(lit), bool)


class ByHouses(Sided):
    def test_least_words_told(self):
        for house in some_houses():
            with self.subTest(fields(house)):
                self.learn(house, lambda guess: difference(guess, house))

    def test_longer_words_told(self):
        source = random.Random(13)
        for house in some_houses():
            with self.subTest(fields(house)):
                self.learn(house, lambda guess: longer_difference(source, guess, house))

    def learn(self, house, chosen):
        self.begin(house.doors)
        self.answer_by(house)
        word = chosen(self.learner.guess())
        while word is not None:
            self.tell(word, house.says(word))
            self.answer_by(house)
            word = chosen(self.learner.guess())
        self.assertIsNone(difference(self.learner.guess(), house))
        self.assertEqual(self.learner.guess().rooms(), fewest(house).rooms())
        self.assertLess(self.told, fewest(house).rooms())

    def test_word_of_four_hundred_doors(self):
        house = House(*ENDS_WITH_ZERO_ONE)
        self.begin(2)
        self.answer_by(house)
        word = [1, 0, 0, 0] * 99 + [1, 1, 0, 1]
        self.tell(word, True)
        self.assertEqual(len(self.learner.tails), 401)
        self.assertEqual(self.learner.tails[-1], word)
        answer_all(self.learner, house)
        self.assertIsNone(difference(self.learner.guess(), house))

    def test_longer_words_are_not_refused(self):
        learner = answered_by(line(3))
        learner.wrong([0] * 405, True)
        self.assertEqual(learner.tails, [[0] * size for size in range(406)])

    def test_four_hundred_heads(self):
        house = ring(400, 400)
        learner = answered_by(house)
        learner.wrong([0] * 400, True)
        answer_all(learner, house)
        self.assertEqual(learner.heads, [[0] * size for size in range(400)])
        self.assertEqual(fields(learner.guess()), fields(house))


class ByDrawnTruths(Sided):
    def test_as_many_lit_as_dark(self):
        self.every_number_of_doors(2)

    def test_mostly_dark(self):
        # So some edges are like heads, and there are guesses between.
        self.every_number_of_doors(9)

    def test_nearly_all_dark(self):
        self.every_number_of_doors(40)

    def every_number_of_doors(self, lit_of):
        for doors in range(1, 7):
            for seed in range(4):
                with self.subTest(doors=doors, seed=seed):
                    self.turns(doors, random.Random(seed), lit_of)

    def turns(self, doors, source, lit_of):
        self.begin(doors)
        for _ in range(60 if doors == 1 else 160):
            if self.learner.question() is not None:
                self.answer(source.randrange(lit_of) == 0)
            else:
                self.tell_a_drawn_word(doors, source)

    def tell_a_drawn_word(self, doors, source):
        guess = self.learner.guess()
        longest = 5
        word = drawn_word(source, doors, 1, longest)
        while self.learner.book.said(word) is not None:
            # The guess says of it what the book says.
            with self.assertRaises(NotWrong):
                self.learner.wrong(word, self.learner.book.said(word))
            self.hold()
            # Of one door, all short words are noted at last.
            longest += 2
            word = drawn_word(source, doors, 1, longest)
        self.tell(word, not guess.says(word))


class SideBySide(unittest.TestCase):
    def test_two_learners_turn_nothing_of_one_another(self):
        houses = [House(*ENDS_WITH_ZERO_ONE), line(5, 2)]
        alone = [[], []]
        for house, states in zip(houses, alone):
            learner = Learner(2)
            for _ in range(60):
                states.append(state(learner))
                self.turn(learner, house)
        learners = [Learner(2), Learner(2)]
        for at in range(60):
            for learner, house, states in zip(learners, houses, alone):
                self.assertEqual(state(learner), states[at])
                self.turn(learner, house)

    def turn(self, learner, house):
        if learner.question() is not None:
            learner.answer(house.says(learner.question()))
        else:
            word = difference(learner.guess(), house)
            if word is not None:
                learner.wrong(word, house.says(word))


class Refused(unittest.TestCase):
    def refuse(self, error, learner, call):
        before = state(learner)
        with self.assertRaises(error):
            call()
        self.assertEqual(state(learner), before)

    def learners_that_ask(self):
        for house in (all_lit(1), all_lit(6), House(*ODD_ZEROS), House(*ENDS_WITH_ZERO_ONE), line(4, 3)):
            learner = Learner(house.doors)
            for _ in range(40):
                if learner.question() is None:
                    word = difference(learner.guess(), house)
                    if word is None:
                        break
                    learner.wrong(word, house.says(word))
                else:
                    yield learner
                    learner.answer(house.says(learner.question()))

    def learners_that_guess(self):
        for doors in range(1, 7):
            yield answered_by(all_lit(doors))
            yield answered_by(line(2, doors))
            yield answered_by(line(4, doors))
            yield taught_by(line(4, doors))

    def test_answer_where_there_is_no_question(self):
        for learner in self.learners_that_guess():
            for lit in (True, False):
                self.refuse(NotAsked, learner, lambda: learner.answer(lit))

    def test_guess_where_there_is_a_question(self):
        for learner in self.learners_that_ask():
            self.refuse(NotYet, learner, learner.guess)

    def test_word_told_where_there_is_a_question(self):
        for learner in self.learners_that_ask():
            words = list(words_to(learner.doors, 2)) + [[learner.doors], [-1], [0, learner.doors], [0, 0, -1]]
            for word, lit in itertools.product(words, (True, False)):
                self.refuse(NotYet, learner, lambda: learner.wrong(word, lit))

    def test_word_told_with_a_door_that_is_not_there(self):
        for learner in self.learners_that_guess():
            for word, lit in itertools.product(wrong_words(learner.doors), (True, False)):
                self.refuse(BadWord, learner, lambda: learner.wrong(word, lit))

    def test_told_otherwise_than_the_book_says(self):
        for learner in self.learners_that_guess():
            for word, lit in learner.book.all_said():
                self.refuse(SaidOtherwise, learner, lambda: learner.wrong(word, not lit))

    def test_told_as_the_guess_says(self):
        for learner in self.learners_that_guess():
            for word in words_to(learner.doors, 3):
                self.refuse(NotWrong, learner, lambda: learner.wrong(word, learner.guess().says(word)))

    def test_told_as_the_guess_and_the_book_say(self):
        for learner in self.learners_that_guess():
            for word, lit in learner.book.all_said():
                self.refuse(NotWrong, learner, lambda: learner.wrong(word, lit))

    def test_goes_on_behind_refusals(self):
        house = House(*ENDS_WITH_ZERO_ONE)
        learner = Learner(2)
        while learner.question() is not None:
            self.refuse(NotYet, learner, learner.guess)
            self.refuse(NotYet, learner, lambda: learner.wrong([0, 1], True))
            learner.answer(house.says(learner.question()))
        self.refuse(NotAsked, learner, lambda: learner.answer(True))
        self.refuse(BadWord, learner, lambda: learner.wrong([0, 2], True))
        self.refuse(SaidOtherwise, learner, lambda: learner.wrong([1], True))
        self.refuse(NotWrong, learner, lambda: learner.wrong([0, 1], False))
        learner.wrong([0, 1], True)
        answer_all(learner, house)
        self.assertEqual(state(learner), state(taught_by(house)))


class NothingHangs(unittest.TestCase):
    def test_told_words_are_not_changed(self):
        learner = answered_by(House(*ENDS_WITH_ZERO_ONE))
        for word, lit in (([0, 2], True), ([0], True), ([0], False), ([0, 0, 1], True)):
            kept = list(word)
            try:
                learner.wrong(word, lit)
            except (BadWord, SaidOtherwise, NotWrong):
                pass
            self.assertEqual(word, kept)
        self.assertEqual(learner.tails, [[], [1], [0, 1], [0, 0, 1]])

    def test_told_words_may_be_changed_later(self):
        learner = answered_by(House(*ENDS_WITH_ZERO_ONE))
        word = [0, 1]
        learner.wrong(word, True)
        before = state(learner)
        word.append(1)
        word[0] = 1
        self.assertEqual(state(learner), before)
        self.assertEqual(learner.tails, [[], [1], [0, 1]])
        self.assertIs(learner.book.said([0, 1]), True)
        answer_all(learner, House(*ENDS_WITH_ZERO_ONE))
        self.assertEqual(fields(learner.guess()), ENDS_WITH_ZERO_ONE)

    def test_told_word_of_one_door_may_be_changed_later(self):
        learner = answered_by(line(3))
        word = [0]
        with self.assertRaises(SaidOtherwise):
            learner.wrong(word, True)
        word.append(0)
        learner.wrong(word, True)
        word.pop()
        self.assertEqual(learner.tails, [[], [0], [0, 0]])

    def test_question_given_back_may_be_changed(self):
        house = line(4, 2)
        learner = Learner(2)
        for _ in range(40):
            if learner.question() is None:
                if difference(learner.guess(), house) is None:
                    break
                learner.wrong(difference(learner.guess(), house), True)
            before = state(learner)
            word = learner.question()
            word.append(1)
            word[0] = 1 - word[0]
            self.assertEqual(state(learner), before)
            learner.answer(house.says(before[0]))
            self.assertEqual(learner.book.all_said(), before[3] + [(before[0], house.says(before[0]))])
        self.assertEqual(learner.heads[:3], [[], [0], [0, 0]])

    def test_question_given_back_stays(self):
        learner = Learner(1)
        word = learner.question()
        learner.answer(True)
        self.assertEqual(word, [])
        word = learner.question()
        learner.answer(False)
        self.assertEqual(word, [0])

    def test_question_and_guess_turn_nothing(self):
        for house in (House(*ODD_ZEROS), House(*ENDS_WITH_ZERO_ONE), line(5)):
            quiet, asked = taught_by(house), Learner(house.doors)
            for _ in range(200):
                if asked.question() is None:
                    asked.guess()
                    word = difference(asked.guess(), house)
                    if word is None:
                        break
                    asked.wrong(word, house.says(word))
                asked.question()
                asked.answer(house.says(asked.question()))
            self.assertEqual(state(quiet), state(asked))

    def test_guess_given_back_stays(self):
        house = House(*ENDS_WITH_ZERO_ONE)
        learner = answered_by(house)
        guess = learner.guess()
        learner.wrong([0, 1], True)
        answer_all(learner, house)
        self.assertEqual(fields(guess), (2, [[0, 0]], [False]))

    def test_two_guesses_hang_on_nothing(self):
        learner = taught_by(House(*ENDS_WITH_ZERO_ONE))
        one, other = learner.guess(), learner.guess()
        one.ways[0][0] = 2
        one.lamps[0] = True
        self.assertEqual(fields(other), ENDS_WITH_ZERO_ONE)
        self.assertEqual(fields(learner.guess()), ENDS_WITH_ZERO_ONE)


if __name__ == "__main__":
    unittest.main()
