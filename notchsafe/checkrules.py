"""Rules of checks, told safe or not for sticks of all lengths."""

from notchsafe.errors import InvalidRule, InvalidStick
from notchsafe.kinds import NOTCHED, PLAIN, is_sequence, is_stick
from notchsafe.ways import Way


class CheckRule:
    """The checks that are put behind sticks, by how many plain places these have."""

    def __init__(self, checks):
        at = first_misfit(checks)
        if at is not None:
            raise InvalidRule(at)
        self.checks = tuple(checks)

    def put(self, stick):
        """The stick with its check."""
        if not is_stick(stick):
            raise InvalidStick()
        return stick + self.checks[stick.count(PLAIN) % len(self.checks)]

    def is_safe(self, length, most):
        """Whether no stick of a length with its check can become another one by at most so many additions."""
        return self.fraud(length, most) is None

    def always_safe(self, most):
        """Whether the rule is safe for all lengths."""
        return self.first_unsafe(most) is None

    def first_unsafe(self, most):
        """The least length for which the rule is not safe, or None."""
        step = shortest_step(self.checks, most)
        return None if step is None else step[0]

    def fraud(self, length, most):
        """Some two sticks of a length with their checks, the first of which can become the second, or None."""
        step = shortest_step(self.checks, most)
        if step is None or step[0] > length:
            return None
        plain, added = step
        one = PLAIN * plain + NOTCHED * (length - plain)
        other = PLAIN * (plain - added) + NOTCHED * (length - plain + added)
        return (self.put(one), self.put(other))

    def __eq__(self, other):
        return isinstance(other, CheckRule) and self.checks == other.checks

    def __str__(self):
        return " ".join(self.checks)


def first_misfit(checks):
    """The index of the first thing that cannot be a check of a rule, or None."""
    if not is_sequence(checks) or len(checks) == 0:
        return 0
    for at, check in enumerate(checks):
        if not (is_stick(check) and len(check) == len(checks[0])):
            return at
    return None


def shortest_step(checks, most):
    """The fewest plain places of a stick that can become another one, and how many of them it loses, or None."""
    many = len(checks)
    # So many additions lead to the same check, so what more of them can do, fewer can do at fewer plain places.
    greatest = many if most is None else min(many, most)
    steps = []
    for added in range(1, greatest + 1):
        way = Way("add", None if most is None else most - added)
        for rest in range(many):
            if way.can(checks[rest], checks[(rest - added) % many]):
                steps.append((least_from(added, rest, many), added))
    return min(steps, default=None)


def least_from(start, rest, many):
    """The least number from a start on that leaves this rest, divided by so many."""
    return start + (rest - start) % many
