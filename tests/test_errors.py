"""[4] the errors, and what [2] says of their arguments."""

import unittest

from notchsafe import errors
from tests.samples import odd_values

KEEPING = {
    "InvalidWay": "word", "InvalidBook": "at", "InvalidText": "at", "InvalidRule": "at",
    "NoSum": "value", "NoStick": "at", "NoPlace": "at", "Refused": "at",
}
BARE = ("InvalidStick", "InvalidCommand")
NAMES = (*KEEPING, *BARE)


def made(name):
    return getattr(errors, name)(*([0] if name in KEEPING else []))


class Classes(unittest.TestCase):
    def test_base(self):
        self.assertEqual(errors.StickError.__bases__, (ValueError,))

    def test_direct_subclasses(self):
        for name in NAMES:
            with self.subTest(name):
                self.assertEqual(getattr(errors, name).__bases__, (errors.StickError,))

    def test_each_is_its_own_kind_only(self):
        for name in NAMES:
            error = made(name)
            self.assertIsInstance(error, errors.StickError)
            self.assertIsInstance(error, ValueError)
            for other in NAMES:
                with self.subTest(name, other=other):
                    self.assertEqual(isinstance(error, getattr(errors, other)), name == other)

    def test_can_be_raised_and_caught(self):
        for name in NAMES:
            for kind in (getattr(errors, name), errors.StickError, ValueError):
                with self.subTest(name, kind=kind), self.assertRaises(kind):
                    raise made(name)


class Arguments(unittest.TestCase):
    def values(self):
        return [*odd_values(), 0, 1, 10 ** 30, 2 ** 70, "x..", "how", [], (), [1, [2, [3]]], (1, (2, [3])), [None], {}]

    def test_kept_by_place(self):
        for name, word in KEEPING.items():
            for value in self.values():
                with self.subTest(name, value=value):
                    self.assertIs(getattr(getattr(errors, name)(value), word), value)

    def test_kept_by_name(self):
        for name, word in KEEPING.items():
            for value in self.values():
                with self.subTest(name, value=value):
                    self.assertIs(getattr(getattr(errors, name)(**{word: value}), word), value)

    def test_kept_value_is_not_copied_when_it_changes(self):
        for name, word in KEEPING.items():
            held = [1, [2]]
            error = getattr(errors, name)(held)
            held[1].append(3)
            held.append(4)
            self.assertEqual(getattr(error, word), [1, [2, 3], 4])

    def test_kept_apart(self):
        for name, word in KEEPING.items():
            one, other = getattr(errors, name)(1), getattr(errors, name)("two")
            self.assertEqual((getattr(one, word), getattr(other, word)), (1, "two"))

    def test_kept_when_raised(self):
        for name, word in KEEPING.items():
            value = [name]
            with self.assertRaises(getattr(errors, name)) as caught:
                raise getattr(errors, name)(value)
            self.assertIs(getattr(caught.exception, word), value)


if __name__ == "__main__":
    unittest.main()
