"""[11] numbers of sticks."""

import random
import unittest
from math import comb

from notchsafe.errors import InvalidStick, NoStick
from notchsafe.numbers import how_many, number_of, stick_at
from tests.samples import all_sticks, any_values


class Example(unittest.TestCase):
    def test_document(self):
        self.assertEqual(
            (how_many(4, 2), stick_at(4, 2, 0), stick_at(4, 2, 5), number_of("x..x"), how_many(300, 150) > 10 ** 88),
            (6, "..xx", "xx..", 3, True))

    def test_by_name(self):
        self.assertEqual(how_many(notched=2, length=4), 6)
        self.assertEqual(stick_at(at=5, notched=2, length=4), "xx..")
        self.assertEqual(number_of(stick="x..x"), 3)


class HowMany(unittest.TestCase):
    def test_all_small(self):
        for length in range(0, 10):
            strings = all_sticks(length)
            for notched in range(0, 13):
                expected = sum(1 for string in strings if string.count("x") == notched)
                self.assertEqual(how_many(length, notched), expected, (length, notched))

    def test_length_zero(self):
        self.assertEqual([how_many(0, notched) for notched in (0, 1, 2, 300)], [1, 0, 0, 0])

    def test_more_notches_than_places(self):
        for length, notched in ((1, 2), (4, 5), (4, 6), (8, 300), (299, 300), (300, 301), (300, 900)):
            self.assertEqual(how_many(length, notched), 0)

    def test_long(self):
        for length in (20, 64, 100, 299, 300, 310):
            for notched in {0, 1, 2, length // 3, length // 2, length // 2 + 1, length - 2, length - 1, length}:
                self.assertEqual(how_many(length, notched), comb(length, notched))
        self.assertEqual(sum(how_many(300, notched) for notched in range(301)), 2 ** 300)


class StickAt(unittest.TestCase):
    def test_all_small(self):
        for length in range(1, 9):
            for notched in range(length + 1):
                expected = [stick for stick in all_sticks(length) if stick.count("x") == notched]
                self.assertEqual([stick_at(length, notched, at) for at in range(len(expected))], expected)

    def test_first_and_last(self):
        for length in (1, 2, 8, 100, 300):
            for notched in {0, 1, length // 2, length - 1, length}:
                last = how_many(length, notched) - 1
                self.assertEqual(stick_at(length, notched, 0), "." * (length - notched) + "x" * notched)
                self.assertEqual(stick_at(length, notched, last), "x" * notched + "." * (length - notched))

    def test_no_number(self):
        for length, notched in ((1, 0), (1, 1), (2, 1), (4, 2), (8, 4), (300, 0), (300, 1), (300, 150), (300, 300)):
            many = how_many(length, notched)
            for at in (-1, -2, -many, -many - 1, many, many + 1, 2 * many + 1, many * 1000 + 7, 10 ** 200, -10 ** 200):
                with self.subTest(length=length, notched=notched, at=at):
                    with self.assertRaises(NoStick) as caught:
                        stick_at(length, notched, at)
                    self.assertIs(type(caught.exception), NoStick)
                    self.assertEqual(caught.exception.at, at)
            self.assertEqual(number_of(stick_at(length, notched, many - 1)), many - 1)

    def test_the_very_value(self):
        at = 10 ** 90
        with self.assertRaises(NoStick) as caught:
            stick_at(4, 2, at)
        self.assertIs(caught.exception.at, at)

    def test_more_notches_than_places(self):
        for length, notched in ((1, 2), (4, 5), (8, 9), (8, 300), (300, 301)):
            for at in (0, 1, -1):
                with self.assertRaises(NoStick) as caught:
                    stick_at(length, notched, at)
                self.assertEqual(caught.exception.at, at)


class NumberOf(unittest.TestCase):
    def test_all_small(self):
        for length in range(1, 10):
            found = {}
            for stick in all_sticks(length):
                notched = stick.count("x")
                self.assertEqual(number_of(stick), found.get(notched, 0))
                found[notched] = found.get(notched, 0) + 1

    def test_there_and_back(self):
        chance = random.Random(11)
        for length in (9, 50, 299, 300, 320):
            for _ in range(6):
                stick = "".join(chance.choice(chance.choice([".x", "..x", ".xx"])) for _ in range(length))
                at = number_of(stick)
                self.assertEqual(stick_at(length, stick.count("x"), at), stick)
            for notched in (1, 2, length // 2, length - 1):
                for at in (0, 1, chance.randrange(comb(length, notched)), comb(length, notched) - 1):
                    at = min(at, comb(length, notched) - 1)
                    self.assertEqual(number_of(stick_at(length, notched, at)), at)

    def test_ascending(self):
        at = comb(300, 150) // 3
        sticks = [stick_at(300, 150, at + more) for more in range(30)]
        self.assertEqual(sticks, sorted(set(sticks)))
        self.assertEqual({stick.count("x") for stick in sticks}, {150})
        self.assertEqual([number_of(stick) for stick in sticks], [at + more for more in range(30)])

    def test_no_stick(self):
        sticks = {".", "x", "x..", "xxxx"}
        for value in [*any_values(), "", " ", "x ", " x", "x\n", "X", "x.o", ".,", "x" * 299 + "o", "o" + "." * 300,
                      ["x"], ("x",), b"x"]:
            if value.__class__ is str and value in sticks:
                self.assertIs(type(number_of(value)), int)
            else:
                with self.subTest(value=value):
                    with self.assertRaises(InvalidStick) as caught:
                        number_of(value)
                    self.assertIs(type(caught.exception), InvalidStick)


if __name__ == "__main__":
    unittest.main()
