"""[12] and [13] checks."""

import random
import unittest
from itertools import product

from notchsafe.books import Book
from notchsafe.checks import check_size, checked, fewest_checks, is_checked, with_checks
from notchsafe.errors import InvalidStick
from notchsafe.frauds import is_safe
from notchsafe.parts import height
from notchsafe.ways import Way
from tests.samples import all_sticks, any_values, book_of, example, lies_within, made_book


def checked_by_rule(stick):
    size = 0
    while 2 ** size <= len(stick):
        size += 1
    digits = [stick.count(".") // 2 ** place % 2 for place in range(size)]
    return stick + "".join(".x"[digit] for digit in reversed(digits))


class Sizes(unittest.TestCase):
    def test_around_powers_of_two(self):
        expected = {1: 1, 2: 2, 3: 2, 4: 3, 5: 3, 6: 3, 7: 3, 8: 4, 9: 4, 15: 4, 16: 5, 17: 5, 31: 5, 32: 6, 255: 8, 256: 9,
                    257: 9, 300: 9}
        for length, size in expected.items():
            self.assertEqual(check_size(length), size)
            self.assertEqual(check_size(length=length), size)

    def test_least(self):
        for length in range(1, 600):
            size = check_size(length)
            self.assertGreater(2 ** size, length)
            self.assertLessEqual(2 ** (size - 1), length)

    def test_fewer_check_places_never_do(self):
        # The sticks ".." > "x." > "xx" are a row, so three checks are needed, which one place does not have.
        for checks in product(all_sticks(check_size(2) - 1), repeat=3):
            sticks = [stick + check for stick, check in zip(("..", "x.", "xx"), checks)]
            self.assertTrue(any(lies_within(one, other) for one in sticks for other in sticks))


class Checked(unittest.TestCase):
    def test_document(self):
        self.assertEqual((check_size(3), check_size(4), checked("x.."), is_checked(3, "x..x."), is_checked(3, "x...x")),
                         (2, 3, "x..x.", True, False))

    def test_some(self):
        self.assertEqual(checked("."), ".x")
        self.assertEqual(checked("x"), "x.")
        self.assertEqual(checked(".."), "..x.")
        self.assertEqual(checked("xx"), "xx..")
        self.assertEqual(checked("...."), "....x..")
        self.assertEqual(checked("x..."), "x....xx")
        self.assertEqual(checked("........"), "........x...")
        self.assertEqual(checked("xxxxxxxx"), "xxxxxxxx....")
        self.assertEqual(checked(stick=".x"), ".x.x")
        self.assertEqual(checked("." * 300), "." * 300 + "x..x.xx..")

    def test_all_small(self):
        for length in range(1, 9):
            for stick in all_sticks(length):
                self.assertEqual(checked(stick), checked_by_rule(stick))

    def test_no_additions_are_unseen(self):
        for length in range(1, 6):
            sticks = [checked(stick) for stick in all_sticks(length)]
            self.assertFalse(any(lies_within(one, other) for one in sticks for other in sticks))

    def test_no_stick(self):
        for value in [*any_values(), "", " ", "x ", "X", "x.o", ".,", "x" * 8 + "o", ["x"], ("x",), b"x"]:
            if value.__class__ is str and value in (".", "x", "x..", "xxxx"):
                self.assertEqual(checked(value), checked_by_rule(value))
            else:
                with self.subTest(value=value):
                    with self.assertRaises(InvalidStick) as caught:
                        checked(value)
                    self.assertIs(type(caught.exception), InvalidStick)


class IsChecked(unittest.TestCase):
    def test_all_of_the_right_length(self):
        for length in range(1, 8):
            right = {checked_by_rule(stick) for stick in all_sticks(length)}
            for value in all_sticks(length + check_size(length)):
                self.assertIs(is_checked(length, value), value in right)

    def test_other_lengths(self):
        for length in range(1, 9):
            for other in range(1, 9):
                for stick in all_sticks(min(other, 5)):
                    value = checked_by_rule(stick)
                    right = len(value) == length + check_size(length) and checked_by_rule(value[:length]) == value
                    self.assertIs(is_checked(length, value), right)
                    self.assertIs(is_checked(length, stick), len(stick) > length and stick == checked_by_rule(stick[:length]))
            for stick in all_sticks(length):
                value = checked_by_rule(stick)
                for wrong in (value[1:], value[:-1], value + ".", value + "x", "." + value, "x" + value, value + value, ""):
                    self.assertIs(is_checked(length, wrong), False)

    def test_too_short(self):
        self.assertIs(is_checked(3, ""), False)
        for stick in (".", "x", "..", "x.", "...", "xxx", "x..", "....", "xxx.", "xxxx"):
            self.assertIs(is_checked(3, stick), False)

    def test_other_signs(self):
        for value in ("x..10", "x..X.", "x..x.\n", "x..x ", " x..x.", "x..x.o", "X..x.", "o..x.", "x.. x.", "x,.x."):
            self.assertIs(is_checked(3, value), False)

    def test_any_value(self):
        for length in (1, 2, 3, 4, 8, 300):
            for value in any_values():
                with self.subTest(length=length, value=value):
                    self.assertIs(is_checked(length, value), False)
            self.assertIs(is_checked(length, [checked("." * length)]), False)
            self.assertIs(is_checked(length, tuple(checked("." * length))), False)
            self.assertIs(is_checked(length, checked("." * length)), True)

    def test_by_name(self):
        self.assertIs(is_checked(value="x..x.", length=3), True)


class Books(unittest.TestCase):
    def check(self, book):
        result, size = with_checks(book), fewest_checks(book)
        with self.subTest(book=str(book), result=str(result)):
            self.assertIsInstance(result, Book)
            self.assertEqual(len(result), len(book))
            for (value, stick), (told, longer) in zip(book.entries, result.entries):
                self.assertEqual(told, value)
                self.assertEqual(len(longer), len(stick) + size)
                self.assertEqual(longer[:len(stick)], stick)
            self.assertIs(is_safe(result, Way()), True)
            self.assertGreaterEqual(2 ** size, height(book))
            self.assertEqual(fewest_checks(result), 0)
            self.assertEqual(with_checks(result), result)
        return size

    def row(self, many):
        """A book of so many entries in one row."""
        return book_of(*["x" * notched + "." * (8 - notched) for notched in range(many)])

    def test_document(self):
        self.assertEqual(fewest_checks(example()), 2)
        self.assertEqual(self.check(example()), 2)

    def test_heights(self):
        for many, size in ((0, 0), (1, 0), (2, 1), (3, 2), (4, 2), (5, 3), (6, 3), (7, 3), (8, 3), (9, 4)):
            self.assertEqual(height(self.row(many)), many)
            self.assertEqual(fewest_checks(self.row(many)), size)
            self.assertEqual(fewest_checks(book=self.row(many)), size)
            self.assertEqual(self.check(self.row(many)), size)

    def test_sixteen_and_seventeen_in_a_row(self):
        for many, size in ((16, 4), (17, 5)):
            book = book_of(*["x" * notched + "." * (17 - notched) for notched in range(many)])
            self.assertEqual(self.check(book), size)

    def test_empty_book(self):
        self.assertEqual(fewest_checks(Book()), 0)
        self.assertEqual(with_checks(Book()), Book())
        self.assertEqual(with_checks(book=Book()).length, 0)

    def test_safe_books_stay_as_they_are(self):
        for book in (Book([(0, "x")]), Book([(3, "x."), (1, ".x")]), book_of("xx..", "..xx", "x..x")):
            self.assertEqual(fewest_checks(book), 0)
            self.assertEqual(with_checks(book), book)

    def test_many_entries_one_check(self):
        self.assertEqual(self.check(book_of("x...", ".x..", "..x.", "xx..", ".xx.", "..xx", "x..x")), 1)

    def test_fewer_never_do(self):
        chance = random.Random(13)
        for _ in range(30):
            book = made_book(chance, chance.randint(1, 4), chance.randint(1, 5))
            size = fewest_checks(book)
            for fewer in range(size):
                for checks in product(all_sticks(fewer), repeat=len(book)):
                    sticks = [stick + check for (_, stick), check in zip(book.entries, checks)]
                    self.assertTrue(any(lies_within(one, other) for one in sticks for other in sticks))

    def test_many_books(self):
        chance = random.Random(130)
        for _ in range(120):
            self.check(made_book(chance, chance.randint(1, 6), chance.randint(0, 16)))
        for _ in range(10):
            self.check(made_book(chance, 8, 16))

    def test_the_book_does_not_change(self):
        book = example()
        with_checks(book)
        fewest_checks(book)
        self.assertEqual(book, example())
        self.assertEqual(with_checks(book), with_checks(example()))


if __name__ == "__main__":
    unittest.main()
