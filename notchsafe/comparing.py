"""Books that are alike but for their sums and the order of their places, and places that can be spared."""

from notchsafe.errors import InvalidBook
from notchsafe.frauds import frauds
from notchsafe.kinds import NOTCHED
from notchsafe.ways import Way


def alike(p, q):
    """Whether the places of a book can be exchanged so that its sticks are just those of another one."""
    return turning(p, q) is not None


def turning(p, q):
    """Some such exchange: for each place of the first book its place in the second one; or None."""
    if p.length != q.length or len(p) != len(q):
        return None
    pair = [[stick for value, stick in book.entries] for book in (p, q)]
    # Places that all sticks have alike can stand for one another; to keep their order saves a search for each of them.
    return exchange(pair, [[twins_ahead(sticks, at) for at in range(p.length)] for sticks in pair])


def needless(book):
    """The places, ascending, without which alone the sticks stay unlike and the same pairs lie within one another."""
    return tuple([at for at in range(book.length) if can_be_spared(book, at)])


def twins_ahead(sticks, at):
    """How many places ahead of a place each stick has as it has this one."""
    return len([place for place in range(at) if all([stick[place] == stick[at] for stick in sticks])])


def exchange(pair, kinds):
    """Some exchange of places that turns the first sticks into the second ones and keeps the kinds, or None."""
    kinds = told_apart(pair, kinds)
    if kinds is None:
        return None
    ours, theirs = kinds
    shared = [place for place, kind in enumerate(ours) if ours.count(kind) > 1]
    if len(shared) == 0:
        # Each place has a kind of its own, and for each kind sticks of the same marks are notched, so nothing is left.
        return tuple([theirs.index(kind) for kind in ours])
    at = shared[0]
    for other in [place for place, kind in enumerate(theirs) if kind == ours[at]]:
        places = exchange(pair, [singled_out(ours, at), singled_out(theirs, other)])
        if places is not None:
            return places
    return None


def told_apart(pair, kinds):
    """The kinds of places, split as far as the notches tell them apart, or None if the pair cannot be alike."""
    while True:
        marks = numbered([marks_of(sticks, own) for sticks, own in zip(pair, kinds)])
        finer = numbered([finer_of(sticks, own, told) for sticks, own, told in zip(pair, kinds, marks)])
        if sorted(finer[0]) != sorted(finer[1]):
            return None
        if len(set(finer[0])) == len(set(kinds[0])):
            return finer
        kinds = finer


def marks_of(sticks, kinds):
    """For each stick the kinds of its notched places."""
    return [tuple(sorted([kind for kind, sign in zip(kinds, stick) if sign == NOTCHED])) for stick in sticks]


def finer_of(sticks, kinds, marks):
    """For each place its kind and the marks of the sticks that are notched at it."""
    return [
        (kind, tuple(sorted([mark for mark, stick in zip(marks, sticks) if stick[at] == NOTCHED])))
        for at, kind in enumerate(kinds)
    ]


def numbered(pair):
    """Numbers for the things in two lists, the same number for things that are equal."""
    number = {thing: at for at, thing in enumerate(sorted(set([*pair[0], *pair[1]])))}
    return [[number[thing] for thing in things] for things in pair]


def singled_out(kinds, at):
    """The kinds of places with a kind of its own for one of them."""
    return [*kinds[:at], len(kinds), *kinds[at + 1:]]


def can_be_spared(book, at):
    """Whether the sticks stay unlike without a place, and the same pairs lie within one another."""
    try:
        shorter = book.shortened(at)
    except InvalidBook:
        return False
    return frauds(shorter, Way()) == frauds(book, Way())
