"""Ways in which sticks can be changed."""

from notchsafe.errors import InvalidStick, InvalidWay
from notchsafe.kinds import NOTCHED, PLAIN, is_count, is_sequence, is_stick

HOWS = ("add", "lose", "mixed")


class Way:
    """How sticks can be changed, at how many places at most, and at which ones."""

    def __init__(self, how="add", most=None, part=None):
        if not is_how(how):
            raise InvalidWay("how")
        if not (most is None or is_count(most)):
            raise InvalidWay("most")
        if not (part is None or is_part(part)):
            raise InvalidWay("part")
        self.how = how
        self.most = most
        self.part = None if part is None else tuple(sorted(set(part)))

    def can(self, one, other):
        """Whether the first stick can become the second one."""
        if not (is_stick(one) and is_stick(other)):
            raise InvalidStick()
        if len(one) != len(other):
            return False
        changed = [at for at in range(len(one)) if one[at] != other[at]]
        if self.most is not None and len(changed) > self.most:
            return False
        if self.part is not None and not all([at in self.part for at in changed]):
            return False
        return all([one[at] in changeable(self.how) for at in changed])

    def __eq__(self, other):
        return (isinstance(other, Way) and self.how == other.how
                and self.most == other.most and self.part == other.part)

    def __str__(self):
        words = [self.how]
        if self.most is not None:
            words.append(f"at most {self.most}")
        if self.part is not None:
            words.append(" ".join(["within", *[str(at) for at in self.part]]))
        return " ".join(words)


def is_how(value):
    """Whether a value is one of the words for a way."""
    return isinstance(value, str) and value in HOWS


def is_part(value):
    """Whether a value is a sequence of places."""
    return is_sequence(value) and all([is_count(at) for at in value])


def changeable(how):
    """The signs that a place can have that is changed so."""
    if how == "add":
        return (PLAIN,)
    if how == "lose":
        return (NOTCHED,)
    return (PLAIN, NOTCHED)
