"""Books, which tell what stick stands for what sum."""

from notchsafe.errors import InvalidBook, InvalidText, NoPlace, NoSum
from notchsafe.kinds import is_count, is_numeral, is_sequence, is_stick


class Book:
    """Entries of a sum and a stick, all sticks of one length."""

    def __init__(self, entries=()):
        at = first_fault(entries)
        if at is not None:
            raise InvalidBook(at)
        self.entries = tuple(sorted(entries))
        self.length = len(entries[0][1]) if len(entries) > 0 else 0

    @classmethod
    def read(cls, text):
        """The book of the lines of a text, as `str` gives them, in any order."""
        if not isinstance(text, str):
            raise InvalidText(0)
        lines = text.split("\n") if text != "" else []
        for at, line in enumerate(lines):
            if not is_line(line):
                raise InvalidText(at)
        # The entries are in the order of the lines, so InvalidBook tells a line's number.
        return cls([entry_of(line) for line in lines])

    def stick_of(self, value):
        """The stick of a sum."""
        if is_count(value):
            for told, stick in self.entries:
                if told == value:
                    return stick
        raise NoSum(value)

    def sum_of(self, value):
        """The sum of a stick, or None."""
        for told, stick in self.entries:
            if stick == value:
                return told
        return None

    def without(self, value):
        """The book without the entry of a sum."""
        stick = self.stick_of(value)
        return Book([entry for entry in self.entries if entry != (value, stick)])

    def shortened(self, at):
        """The book without a place of the sticks."""
        if not is_count(at) or at >= self.length:
            raise NoPlace(at)
        # The entries stay in their order, so InvalidBook tells the number of one of them.
        return Book([(value, stick[:at] + stick[at + 1:]) for value, stick in self.entries])

    def __len__(self):
        return len(self.entries)

    def __add__(self, other):
        if not isinstance(other, Book):
            return NotImplemented
        return Book([*self.entries, *other.entries])

    def __eq__(self, other):
        return isinstance(other, Book) and self.entries == other.entries

    def __str__(self):
        return "\n".join([f"{value} {stick}" for value, stick in self.entries])


def first_fault(entries):
    """The index of the first thing that cannot stand in a book, or None."""
    if not is_sequence(entries):
        return 0
    for at, thing in enumerate(entries):
        if not is_entry(thing) or clashes(thing, entries[:at]):
            return at
    return None


def is_entry(value):
    """Whether a value is a pair of a sum and a stick."""
    return isinstance(value, tuple) and len(value) == 2 and is_count(value[0]) and is_stick(value[1])


def clashes(entry, earlier):
    """Whether an entry has an earlier one's sum or stick, or a stick of another length."""
    value, stick = entry
    return any([value == told or stick == other or len(stick) != len(other) for told, other in earlier])


def is_line(line):
    """Whether a line is a sum and a stick with one space between them."""
    words = line.split(" ")
    return len(words) == 2 and is_numeral(words[0]) and is_stick(words[1])


def entry_of(line):
    """The entry that a line tells."""
    words = line.split(" ")
    return (int(words[0]), words[1])
