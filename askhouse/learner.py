"""A learner that asks of words, and guesses a house by what it was answered."""

from askhouse.book import Book
from askhouse.errors import NotAsked, NotWrong, NotYet
from askhouse.house import House


class Learner:
    def __init__(self, doors):
        self.book = Book(doors)
        self.doors = doors
        self.heads = []
        self.tails = [[]]
        self.lines = []
        # For each line its row, as far as it was looked up. The book never
        # turns what it says, so nothing has to be looked up once more.
        self.rows = []
        # So many lines from the first on have nothing left to ask.
        self.filled = 0
        self.add_head([])

    def add_head(self, head):
        self.heads.append(head)
        self.lines.append(head)
        self.rows.append([])
        for door in range(self.doors):
            self.lines.append(head + [door])
            self.rows.append([])

    def question(self):
        while self.filled < len(self.lines):
            word = self.gap(self.lines[self.filled], self.rows[self.filled])
            if word is not None:
                return word
            self.filled += 1
        return None

    def gap(self, line, row):
        while len(row) < len(self.tails):
            word = line + self.tails[len(row)]
            # Lines and tails hold doors alone, and to check each word anew, as
            # the book's own method does, would take most of a learner's time.
            lit = self.book.noted.get(tuple(word))
            if lit is None:
                return word
            row.append(lit)
        return None

    def answer(self, lit):
        word = self.question()
        if word is None:
            raise NotAsked("there is no question")
        self.book.note(word, lit)
        self.add_unlike_edges()

    def add_unlike_edges(self):
        edge = self.unlike_edge()
        while edge is not None:
            self.add_head(edge)
            edge = self.unlike_edge()

    def unlike_edge(self):
        if self.question() is not None:
            return None
        numbers = self.heads_by_row()
        for line, row in zip(self.lines, self.rows):
            if tuple(row) not in numbers:
                return line
        return None

    def heads_by_row(self):
        # Each head is a line, and behind it stand as many edges as doors.
        numbers = {}
        for number, row in enumerate(self.rows[::self.doors + 1]):
            numbers[tuple(row)] = number
        return numbers

    def guess(self):
        if self.question() is not None:
            raise NotYet("there is a question")
        numbers = self.heads_by_row()
        leads = [numbers[tuple(row)] for row in self.rows]
        ways = []
        for number in range(len(self.heads)):
            first = number * (self.doors + 1) + 1
            ways.append(leads[first:first + self.doors])
        return House(self.doors, ways, [self.book.said(head) for head in self.heads])

    def wrong(self, word, lit):
        guessed = self.guess()
        self.book.check_note(word, lit)
        if guessed.says(word) == lit:
            raise NotWrong("the guess says the same of this word")
        self.book.note(word, lit)
        self.add_tails(word)
        self.add_unlike_edges()

    def add_tails(self, word):
        for size in range(1, len(word) + 1):
            end = word[len(word) - size:]
            if end not in self.tails:
                self.tails.append(end)
        # With more tails there is something to ask of the first lines again.
        self.filled = 0
