"""[8] frauds."""

import random
import unittest

from notchsafe.books import Book
from notchsafe.errors import InvalidStick
from notchsafe.frauds import frauds, is_safe, origins, raised, told_sums
from notchsafe.ways import Way
from tests.samples import HOWS, all_sticks, example, odd_values, outcomes


class Example(unittest.TestCase):
    def test_frauds(self):
        self.assertEqual(frauds(example(), Way()), ((1, 5), (1, 9), (2, 5), (2, 9), (5, 9)))
        self.assertEqual(frauds(example(), Way("add", 1)), ((1, 5), (2, 5), (5, 9)))
        self.assertEqual(frauds(example(), Way("lose")), ((5, 1), (5, 2), (9, 1), (9, 2), (9, 5)))
        self.assertEqual(frauds(example(), Way("add", 0)), ())
        self.assertEqual(frauds(example(), Way("add", None, [2])), ((5, 9),))
        self.assertEqual(frauds(example(), Way("mixed", 2)),
                         ((1, 2), (1, 5), (1, 9), (2, 1), (2, 5), (2, 9), (5, 1), (5, 2), (5, 9), (9, 1), (9, 2), (9, 5)))

    def test_is_safe(self):
        self.assertIs(is_safe(example(), Way()), False)
        self.assertIs(is_safe(example(), Way("add", 0)), True)
        self.assertIs(is_safe(example(), Way("add", None, [])), True)
        self.assertIs(is_safe(example(), Way("add", None, [7])), True)
        self.assertIs(is_safe(example(), Way("add", None, [2])), False)
        self.assertIs(is_safe(Book([(1, "x."), (2, ".x")]), Way()), True)
        self.assertIs(is_safe(Book([(1, "x."), (2, ".x")]), Way("mixed", 1)), True)
        self.assertIs(is_safe(Book([(1, "x."), (2, ".x")]), Way("mixed", 2)), False)

    def test_a_fraud_downwards_is_one_too(self):
        book = Book([(9, "x."), (1, "xx")])
        self.assertEqual(frauds(book, Way()), ((9, 1),))
        self.assertIs(is_safe(book, Way()), False)

    def test_raised(self):
        self.assertEqual(raised(example(), Way()), 8)
        self.assertEqual(raised(example(), Way("add", 1)), 4)
        self.assertEqual(raised(example(), Way("add", None, [1])), 4)
        self.assertEqual(raised(example(), Way("add", None, [0])), 3)

    def test_raised_is_zero_if_no_sum_can_be_raised(self):
        self.assertEqual(raised(example(), Way("lose")), 0)
        self.assertEqual(raised(example(), Way("add", 0)), 0)
        self.assertEqual(raised(Book([(9, "x."), (1, "xx")]), Way()), 0)
        self.assertEqual(raised(Book([(9, "x.")]), Way("mixed")), 0)

    def test_raised_is_the_greatest_not_the_last(self):
        self.assertEqual(raised(Book([(0, "x..."), (100, "xx.."), (90, "..x."), (95, "..xx")]), Way()), 100)

    def test_origins(self):
        self.assertEqual(origins(example(), "xx.", Way()), (1, 2, 5))
        self.assertEqual(origins(example(), "xxx", Way()), (1, 2, 5, 9))
        self.assertEqual(origins(example(), "xxx", Way("add", 1)), (5, 9))
        self.assertEqual(origins(example(), "x..", Way()), (1,))
        self.assertEqual(origins(example(), "x..", Way("lose")), (1, 5, 9))

    def test_told_sums(self):
        self.assertEqual(told_sums(example(), "xx.", Way()), (1, 5))
        self.assertEqual(told_sums(example(), "xxx", Way("add", 1)), (5, 9))
        self.assertEqual(told_sums(example(), ".x.", Way()), (2, 2))
        self.assertEqual(told_sums(Book([(0, "x")]), "x", Way()), (0, 0))

    def test_by_name(self):
        self.assertEqual(frauds(way=Way("add", 1), book=example()), ((1, 5), (2, 5), (5, 9)))
        self.assertIs(is_safe(way=Way("add", 0), book=example()), True)
        self.assertEqual(raised(way=Way(), book=example()), 8)
        self.assertEqual(origins(way=Way(), stick="xx.", book=example()), (1, 2, 5))
        self.assertEqual(told_sums(way=Way(), stick="xx.", book=example()), (1, 5))


class Sticks(unittest.TestCase):
    def test_none_of_the_book(self):
        self.assertEqual(origins(example(), "x.x", Way()), (1,))
        self.assertEqual(told_sums(example(), "x.x", Way()), (1, 1))
        self.assertEqual(origins(example(), ".xx", Way("mixed", 1)), (2, 9))
        self.assertEqual(told_sums(example(), ".xx", Way("mixed", 1)), (2, 9))

    def test_none_can_become_it(self):
        self.assertEqual(origins(example(), "...", Way()), ())
        self.assertIsNone(told_sums(example(), "...", Way()))
        self.assertEqual(origins(example(), "x.x", Way("add", 0)), ())
        self.assertIsNone(told_sums(example(), "x.x", Way("add", 0)))

    def test_another_length(self):
        for stick in ("x", "x.", "xx", "x...", "xxxx", "x.......", "xxxxxxxx", "."):
            for how in HOWS:
                self.assertEqual(origins(example(), stick, Way(how)), ())
                self.assertIsNone(told_sums(example(), stick, Way(how)))

    def test_no_stick(self):
        for value in [*odd_values(), 0, 1, 5, [], (), ["x.."], ("x", "."), "x..y", "x.. ", "xxX", "1 x.."]:
            for book in (example(), Book(), Book([(0, "x")])):
                for way in (Way(), Way("lose", 0), Way("mixed", None, [])):
                    with self.subTest(value=value):
                        with self.assertRaises(InvalidStick):
                            origins(book, value, way)
                        with self.assertRaises(InvalidStick):
                            told_sums(book, value, way)


class Empty(unittest.TestCase):
    def test_empty_book(self):
        for how in HOWS:
            way = Way(how)
            self.assertEqual(frauds(Book(), way), ())
            self.assertIs(is_safe(Book(), way), True)
            self.assertEqual(raised(Book(), way), 0)
            self.assertEqual(origins(Book(), "x.", way), ())
            self.assertIsNone(told_sums(Book(), "x.", way))

    def test_one_entry(self):
        for how in HOWS:
            self.assertEqual(frauds(Book([(3, "x.")]), Way(how)), ())
            self.assertIs(is_safe(Book([(3, "x.")]), Way(how)), True)


class Many(unittest.TestCase):
    def made(self, chance):
        length = chance.randint(1, 5)
        sticks = chance.sample(all_sticks(length), chance.randint(0, min(16, 2 ** length)))
        book = Book(list(zip(chance.sample(range(60), len(sticks)), sticks)))
        part = chance.choice([None, chance.sample(range(length + 1), chance.randint(0, length + 1))])
        return length, book, (chance.choice(HOWS), chance.choice([None, 0, 1, 2, 3]), part)

    def test_many_books(self):
        chance = random.Random(8)
        for _ in range(400):
            length, book, (how, most, part) = self.made(chance)
            way = Way(how, most, part)
            told = dict(book.entries)
            can = {value: outcomes(stick, how, most, part) for value, stick in told.items()}
            pairs = tuple((a, b) for a in sorted(told) for b in sorted(told) if a != b and told[b] in can[a])
            with self.subTest(book=str(book), way=str(way)):
                self.assertEqual(frauds(book, way), pairs)
                self.assertIs(is_safe(book, way), pairs == ())
                self.assertEqual(raised(book, way), max([0, *[b - a for a, b in pairs]]))
                for stick in all_sticks(length):
                    values = tuple(value for value in sorted(told) if stick in can[value])
                    self.assertEqual(origins(book, stick, way), values)
                    self.assertEqual(told_sums(book, stick, way), (min(values), max(values)) if values else None)

    def test_kinds_of_results(self):
        result = frauds(example(), Way())
        self.assertIs(type(result), tuple)
        self.assertTrue(all(type(pair) is tuple for pair in result))
        self.assertIs(type(origins(example(), "xx.", Way())), tuple)
        self.assertIs(type(told_sums(example(), "xx.", Way())), tuple)


if __name__ == "__main__":
    unittest.main()
