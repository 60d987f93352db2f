"""Ledgers: rows of sticks that are written and notched, and deeds that are taken back."""

from notchsafe.errors import NoPlace, Refused
from notchsafe.frauds import told_sums
from notchsafe.kinds import NOTCHED, is_count
from notchsafe.ways import Way


class Ledger:
    """A row of sticks of a book."""

    def __init__(self, book):
        self.book = book
        self.sticks = ()
        self.sums = ()
        self.totals = (0, 0)
        # For each deed the sticks as they were ahead of it; a tuple, so that a trial can hold it.
        self.past = ()

    def write(self, value):
        """Puts the stick of a sum behind the others."""
        self.several((value,))

    def notch(self, at, place):
        """Adds a notch to a stick."""
        if not is_count(at) or at >= len(self.sticks):
            raise Refused(at)
        stick = self.sticks[at]
        if not is_count(place) or place >= len(stick) or stick[place] == NOTCHED:
            raise NoPlace(place)
        notched = stick[:place] + NOTCHED + stick[place + 1:]
        self.stand(self.sticks[:at] + (notched,) + self.sticks[at + 1:], (*self.past, self.sticks))

    def several(self, values):
        """Puts the sticks of all of these sums behind the others, or none of them."""
        sticks = tuple([self.book.stick_of(value) for value in values])
        if len(sticks) > 0:
            self.stand(self.sticks + sticks, (*self.past, self.sticks))

    def undo(self):
        """Takes back the last deed, and returns whether there was one."""
        if len(self.past) == 0:
            return False
        self.stand(self.past[-1], self.past[:-1])
        return True

    def trial(self):
        """A block, behind which the ledger is as it was ahead of it."""
        return Trial(self)

    def within(self, work):
        """What some work returns that is done with the ledger in such a block."""
        with Trial(self) as ledger:
            return work(ledger)

    def stand(self, sticks, past):
        """Takes over sticks and what was ahead of them."""
        told = {stick: told_sums(self.book, stick, Way()) for stick in sticks}
        self.sticks = sticks
        self.sums = tuple([self.book.sum_of(stick) for stick in sticks])
        self.totals = (sum([told[stick][0] for stick in sticks]), sum([told[stick][1] for stick in sticks]))
        self.past = past

    def __len__(self):
        return len(self.past)


class Trial:
    """A block in which a ledger may change, and behind which it is as it was."""

    def __init__(self, ledger):
        self.ledger = ledger

    def __enter__(self):
        self.sticks = self.ledger.sticks
        self.sums = self.ledger.sums
        self.totals = self.ledger.totals
        self.past = self.ledger.past
        return self.ledger

    def __exit__(self, kind, value, trace):
        self.ledger.sticks = self.sticks
        self.ledger.sums = self.sums
        self.ledger.totals = self.totals
        self.ledger.past = self.past
