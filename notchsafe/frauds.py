"""Frauds: sticks of a book that can become other sticks of it."""

from notchsafe.errors import InvalidStick
from notchsafe.kinds import is_stick


def frauds(book, way):
    """All pairs of sums, ascending, such that the stick of the first can become that of the second."""
    return tuple([
        (a, b)
        for a, one in book.entries
        for b, other in book.entries
        if a != b and way.can(one, other)
    ])


def is_safe(book, way):
    """Whether there is no fraud."""
    return len(frauds(book, way)) == 0


def raised(book, way):
    """By how much a sum can be raised at most."""
    return max([0, *[b - a for a, b in frauds(book, way)]])


def origins(book, stick, way):
    """The sums, ascending, whose sticks can become this stick."""
    # An empty book asks nothing of the way, which would tell this otherwise.
    if not is_stick(stick):
        raise InvalidStick()
    return tuple([value for value, told in book.entries if way.can(told, stick)])


def told_sums(book, stick, way):
    """The least and the greatest sum whose sticks can become this stick, or None."""
    values = origins(book, stick, way)
    if len(values) == 0:
        return None
    return (values[0], values[-1])
