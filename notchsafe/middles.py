"""All sticks of a length: how many are safe at most, and the chains that show it."""

from notchsafe.kinds import NOTCHED, PLAIN, is_stick
from notchsafe.ways import Way


def widest(length):
    """How many sticks of a length there can be of which none can become another one by additions."""
    return choices(length, length // 2)


def middle(length):
    """The sticks of a length with `length // 2` notches, ascending."""
    return tuple(notched_so(length, length // 2))


def all_chains(length):
    """Some tuple of the fewest chains in which each stick of a length stands once."""
    chains = [(PLAIN, NOTCHED)]
    for step in range(1, length):
        chains = [longer for chain in chains for longer in grown(chain)]
    return tuple(chains)


def chains_hold(length, value):
    """Whether a value is a tuple of the fewest chains in which each stick of a length stands once."""
    if not (isinstance(value, tuple) and len(value) == widest(length)):
        return False
    if not all([is_chain(length, chain) for chain in value]):
        return False
    sticks = [stick for chain in value for stick in chain]
    return len(sticks) == len(set(sticks)) == 1 << length


def choices(length, notched):
    """How many strings of a length have so many notches."""
    many = 1
    for places in range(1, notched + 1):
        # After each step it is the number for so many notches, so no division leaves a rest.
        many = many * (length - places + 1) // places
    return many


def notched_so(length, notched):
    """All strings of a length with so many notches, ascending."""
    if notched < 0 or notched > length:
        return []
    if length == 0:
        return [""]
    plain = [PLAIN + rest for rest in notched_so(length - 1, notched)]
    return plain + [NOTCHED + rest for rest in notched_so(length - 1, notched - 1)]


def grown(chain):
    """The one or two chains of all sticks of a chain with a place more."""
    long = (*[stick + PLAIN for stick in chain], chain[-1] + NOTCHED)
    short = tuple([stick + NOTCHED for stick in chain[:-1]])
    return [long] if len(short) == 0 else [long, short]


def is_chain(length, value):
    """Whether a value is a chain of sticks of a length."""
    if not (isinstance(value, tuple) and len(value) > 0):
        return False
    if not all([is_stick(stick) and len(stick) == length for stick in value]):
        return False
    way = Way("add", 1)
    return all([one != other and way.can(one, other) for one, other in zip(value, value[1:])])
