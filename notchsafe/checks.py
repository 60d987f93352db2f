"""Check places behind sticks, which make additions seen."""

from notchsafe.books import Book
from notchsafe.errors import InvalidStick
from notchsafe.kinds import NOTCHED, PLAIN, is_stick
from notchsafe.parts import height, safe_parts


def check_size(length):
    """The fewest check places that can tell any number of plain places up to a length."""
    return length.bit_length()


def checked(stick):
    """The stick with the number of its plain places behind it."""
    if not is_stick(stick):
        raise InvalidStick()
    return stick + signs_of(stick.count(PLAIN), check_size(len(stick)))


def is_checked(length, value):
    """Whether a value is a stick of a length with its checks."""
    return is_stick(value) and value == checked(value[:length])


def fewest_checks(book):
    """The fewest check places that can make a book safe."""
    return max(0, height(book) - 1).bit_length()


def with_checks(book):
    """Some book of the sticks with the fewest check places behind them that is safe."""
    size = fewest_checks(book)
    entries = []
    # An entry only lies within entries of later parts; by additions a check only becomes a greater one.
    for number, part in enumerate(safe_parts(book)[::-1]):
        for value in part:
            entries.append((value, book.stick_of(value) + signs_of(number, size)))
    return Book(entries)


def signs_of(number, size):
    """A number as so many binary digits, the highest first, a notch for 1."""
    return "".join([NOTCHED if (number >> place) & 1 == 1 else PLAIN for place in range(size - 1, -1, -1)])
