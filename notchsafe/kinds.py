"""What kind of value something is, asked of any value."""

PLAIN = "."
NOTCHED = "x"
SIGNS = ".x"
MOST_DIGITS = 7


def is_count(value):
    """Whether a value is an integer from 0 on."""
    # Python counts True and False among the integers.
    return isinstance(value, int) and not isinstance(value, bool) and value >= 0


def is_sequence(value):
    """Whether a value is a list or a tuple."""
    return isinstance(value, (list, tuple))


def is_stick(value):
    """Whether a value is a string of at least one sign of a stick and of no other sign."""
    return isinstance(value, str) and value != "" and value.strip(SIGNS) == ""


def is_numeral(word):
    """Whether a string is a number as texts have it: at most 7 digits, no leading zeros."""
    # There are digits beyond ASCII, which `isdigit` and `int` would take.
    plain = word.isascii() and word.isdigit() and len(word) <= MOST_DIGITS
    return plain and word == str(int(word))
