"""Desks, which do commands with ledgers."""

from notchsafe.books import Book
from notchsafe.errors import InvalidCommand
from notchsafe.frauds import frauds
from notchsafe.kinds import is_numeral
from notchsafe.ledger import Ledger
from notchsafe.parts import greatest_safe
from notchsafe.ways import Way

NOTHING = "none"


def told_of_sums(ledger):
    """The sums of all sticks."""
    return listed(["?" if value is None else str(value) for value in ledger.sums])


def told_of_totals(ledger):
    """The least and the greatest total."""
    least, greatest = ledger.totals
    return f"{least} {greatest}"


def told_of_frauds(ledger):
    """The frauds of the book by additions."""
    return listed([f"{a}>{b}" for a, b in frauds(ledger.book, Way())])


def told_of_safe(ledger):
    """How many sums of the book are safe at most."""
    return str(len(greatest_safe(ledger.book)))


def listed(words):
    """Words in a row, or a word for none."""
    return " ".join(words) if len(words) > 0 else NOTHING


# For each command but `book` how many numbers it has.
NUMBERS = {"write": 1, "notch": 2, "sums": 0, "totals": 0, "frauds": 0, "safe": 0, "undo": 0}
QUESTIONS = {"sums": told_of_sums, "totals": told_of_totals, "frauds": told_of_frauds, "safe": told_of_safe}


class Desk:
    """A ledger that is led by commands."""

    def __init__(self):
        self.ledger = Ledger(Book())
        # For each command that can be taken back the ledger that it took the place of, or None for a deed of a ledger.
        self.past = []

    def say(self, command):
        """Does a command, and returns what is to be told of it."""
        if not is_command(command):
            raise InvalidCommand()
        words = command.split(" ")
        word, rest = words[0], words[1:]
        if word == "book":
            return self.open_book(" ".join(rest))
        if word == "undo":
            return self.take_back()
        if word == "write":
            return self.write(int(rest[0]))
        if word == "notch":
            return self.notch(int(rest[0]), int(rest[1]))
        question = QUESTIONS[word]
        return question(self.ledger)

    def open_book(self, text):
        """Begins a ledger of a book."""
        book = Book.read(text.replace(" ; ", "\n"))
        self.past.append(self.ledger)
        self.ledger = Ledger(book)
        return str(len(book))

    def write(self, value):
        """Writes the stick of a sum."""
        self.ledger.write(value)
        self.past.append(None)
        return self.ledger.sticks[-1]

    def notch(self, at, place):
        """Adds a notch to a stick."""
        self.ledger.notch(at, place)
        self.past.append(None)
        return self.ledger.sticks[at]

    def take_back(self):
        """Takes back the last book or deed."""
        if len(self.past) == 0:
            return "nothing"
        ledger = self.past.pop()
        if ledger is None:
            self.ledger.undo()
        else:
            self.ledger = ledger
        return "undone"

    def __len__(self):
        return len(self.past)


def is_command(value):
    """Whether a value is a string that has the form of a command."""
    if not isinstance(value, str) or "\n" in value:
        return False
    words = value.split(" ")
    if "" in words:
        return False
    word, rest = words[0], words[1:]
    if word == "book":
        return len(rest) > 0
    return word in NUMBERS and len(rest) == NUMBERS[word] and all([is_numeral(number) for number in rest])
