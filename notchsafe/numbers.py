"""Sticks with so many notches, and their numbers in ascending order."""

from notchsafe.errors import InvalidStick, NoStick
from notchsafe.kinds import NOTCHED, PLAIN, is_count, is_stick
from notchsafe.middles import choices


def how_many(length, notched):
    """How many strings of the signs have this length and so many notches."""
    return choices(length, notched)


def stick_at(length, notched, at):
    """The stick of this length, with so many notches, that has a number."""
    if not is_count(at) or at >= how_many(length, notched):
        raise NoStick(at)
    signs = []
    ahead, left = at, notched
    for rest in range(length - 1, -1, -1):
        # All that go on with a plain place are ahead of those that go on with a notch.
        plain = how_many(rest, left)
        if ahead < plain:
            signs.append(PLAIN)
        else:
            signs.append(NOTCHED)
            ahead, left = ahead - plain, left - 1
    return "".join(signs)


def number_of(stick):
    """The number of a stick among those of its length and with as many notches."""
    if not is_stick(stick):
        raise InvalidStick()
    # Ahead of a stick are those that have a plain place where it has a notch, and are like it up to there.
    return sum([
        how_many(len(stick) - at - 1, stick[at:].count(NOTCHED))
        for at, sign in enumerate(stick)
        if sign == NOTCHED
    ])
