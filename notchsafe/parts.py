"""Rows and safe lots of a book, where all additions count."""

from notchsafe.books import Book
from notchsafe.frauds import is_safe
from notchsafe.kinds import NOTCHED, is_count
from notchsafe.ways import Way


def height(book):
    """The greatest length of a row."""
    return len(longest_row(book))


def longest_row(book):
    """Some row of the greatest length."""
    return longest(list(rows_to(book).values()))


def safe_parts(book):
    """Some tuple of the fewest safe lots in which each sum stands once."""
    rows = rows_to(book)
    # If an entry lies within another one, the longest row to the other one is longer.
    return tuple([
        tuple([value for value in sums_of(book) if len(rows[value]) == length])
        for length in range(1, height(book) + 1)
    ])


def fewest_rows(book):
    """Some tuple of the fewest rows in which each sum stands once."""
    follower = followers(higher(book))
    later = list(follower.values())
    return tuple([row_from(value, follower) for value in sums_of(book) if value not in later])


def greatest_safe(book):
    """Some greatest safe lot."""
    above = higher(book)
    follower = followers(above)
    taker = takers([value for value in above if value not in follower], above, follower)
    # Of each row it is the first sum whose follower, if there is one, can be taken from it.
    return tuple([
        value
        for value in above
        if value not in taker and (value not in follower or follower[value] in taker)
    ])


def shows(book, value):
    """Whether a value is a pair of a safe lot and as many rows in which each sum stands once."""
    if not (isinstance(value, tuple) and len(value) == 2):
        return False
    lot, rows = value
    return is_safe_lot(book, lot) and are_rows(book, rows) and len(lot) == len(rows)


def sums_of(book):
    """The sums of a book, ascending."""
    return [value for value, stick in book.entries]


def lies_within(one, other):
    """Whether a stick can become another one by additions."""
    return one != other and Way().can(one, other)


def longest(rows):
    """The first of the rows of the greatest length, the empty one if there are none."""
    return max([(), *rows], key=len)


def rows_to(book):
    """For each sum some longest row that ends with it."""
    rows = {}
    # What lies within an entry has fewer notches, so its row is there by then.
    for value, stick in sorted(book.entries, key=lambda entry: entry[1].count(NOTCHED)):
        ahead = [rows[told] for told, other in book.entries if lies_within(other, stick)]
        rows[value] = (*longest(ahead), value)
    return rows


def higher(book):
    """For each sum the sums of the entries that its entry lies within."""
    return {
        value: [told for told, other in book.entries if lies_within(stick, other)]
        for value, stick in book.entries
    }


def followers(above):
    """For as many sums as possible the next one in a row, no sum being the next one of two."""
    follower = {}
    for value in above:
        taker = takers([value], above, follower)
        later = list(follower.values())
        free = [told for told in taker if told not in later]
        if len(free) > 0:
            follower = taken_over(free[0], taker, follower)
    return follower


def takers(starts, above, follower):
    """What can be taken as follower by the starts, or by those that lose theirs for it: who takes each sum."""
    leader = {follower[value]: value for value in follower}
    taker = {}
    waiting = list(starts)
    while len(waiting) > 0:
        value = waiting.pop()
        for told in above[value]:
            if told not in taker:
                taker[told] = value
                if told in leader:
                    waiting.append(leader[told])
    return taker


def taken_over(free, taker, follower):
    """The followers when a free sum is taken, and each one that its taker gives up by this, in turn."""
    changed = dict(follower)
    value = free
    while value is not None:
        changed[taker[value]] = value
        value = follower.get(taker[value])
    return changed


def row_from(value, follower):
    """The row that begins with a sum."""
    row = [value]
    while row[-1] in follower:
        row.append(follower[row[-1]])
    return tuple(row)


def is_safe_lot(book, value):
    """Whether a value is a tuple of sums of a book, ascending, each once, that is safe."""
    # True and False are equal to sums, but are none.
    if not (isinstance(value, tuple) and all([is_count(told) for told in value])):
        return False
    if value != tuple([told for told in sums_of(book) if told in value]):
        return False
    return is_safe(Book([(told, book.stick_of(told)) for told in value]), Way())


def are_rows(book, value):
    """Whether a value is a tuple of rows in which each sum of a book stands once."""
    if not (isinstance(value, tuple) and all([is_row(book, row) for row in value])):
        return False
    return sorted([told for row in value for told in row]) == sums_of(book)


def is_row(book, value):
    """Whether a value is a row of a book with at least one sum."""
    if not (isinstance(value, tuple) and len(value) > 0):
        return False
    if not all([is_count(told) and told in sums_of(book) for told in value]):
        return False
    sticks = [book.stick_of(told) for told in value]
    return all([lies_within(one, other) for one, other in zip(sticks, sticks[1:])])
