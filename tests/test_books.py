"""[6] books and [7] their texts."""

import random
import unittest
from itertools import permutations

from notchsafe import errors
from notchsafe.books import Book
from notchsafe.errors import InvalidBook, InvalidText, NoPlace, NoSum
from notchsafe.ways import Way
from tests.samples import all_sticks, example, nested, odd_values

ENTRIES = ((1, "x.."), (2, ".x."), (5, "xx."), (9, "xxx"))


class Case(unittest.TestCase):
    def fails(self, kind, word, value, work, *args):
        with self.assertRaises(kind) as caught:
            work(*args)
        told = getattr(caught.exception, word)
        self.assertEqual(told, value)
        self.assertIs(type(told), type(value))

    def holds(self, book, entries, length):
        self.assertIsInstance(book, Book)
        self.assertEqual(book.entries, entries)
        self.assertIs(type(book.entries), tuple)
        self.assertTrue(all(type(entry) is tuple for entry in book.entries))
        self.assertEqual(book.length, length)
        self.assertEqual(len(book), len(entries))


class Making(Case):
    def test_any_order_as_list_and_as_tuple(self):
        for entries in permutations(ENTRIES):
            self.holds(Book(entries), ENTRIES, 3)
            self.holds(Book(list(entries)), ENTRIES, 3)
            self.holds(Book(entries=entries), ENTRIES, 3)

    def test_empty(self):
        for book in (Book(), Book([]), Book(()), Book(entries=[])):
            self.holds(book, (), 0)

    def test_ascending_by_number_not_by_sign(self):
        self.holds(Book([(10, "..x"), (9, "xxx"), (100, "..."), (0, "x.x")]),
                   ((0, "x.x"), (9, "xxx"), (10, "..x"), (100, "...")), 3)

    def test_lengths(self):
        for length in range(1, 9):
            self.holds(Book([(0, "x" * length), (1000000, "." * length)]),
                       ((0, "x" * length), (1000000, "." * length)), length)

    def test_many_entries(self):
        entries = [(1000 - at, stick) for at, stick in enumerate(all_sticks(4))]
        self.holds(Book(entries), tuple(sorted(entries)), 4)

    def test_a_list_changed_later_changes_no_book(self):
        entries = [(2, "x."), (1, ".x")]
        book = Book(entries)
        entries.append((3, "xx"))
        entries[0] = (7, "..")
        self.holds(book, ((1, ".x"), (2, "x.")), 2)
        self.assertEqual(book.stick_of(2), "x.")
        entries.clear()
        self.assertEqual(str(book), "1 .x\n2 x.")

    def test_the_list_passed_is_not_changed(self):
        entries = [(2, "x."), (1, ".x")]
        Book(entries)
        self.assertEqual(entries, [(2, "x."), (1, ".x")])


class Wrong(Case):
    def check(self, at, entries):
        self.fails(InvalidBook, "at", at, Book, entries)

    def test_no_sequence(self):
        for value in odd_values():
            if not isinstance(value, (list, tuple)):
                with self.subTest(value=value):
                    self.check(0, value)
        for value in (0, 1, 3, "x..", "1 x..", {}, {(1, "x"): 0}, Book([(1, "x")])):
            self.check(0, value)

    def wrong_things(self):
        return [*odd_values(), 0, 1, "x", "x.", "..", (), [], (1,), ("x.",), (1, "x.", 0), (1, "x.", "x."), [1, "x."],
                ("x.", 1), (True, "x."), (False, "x."), (None, "x."), ("1", "x."), (-1, "x."), ([1], "x."), ((1,), "x."),
                (1, ""), (1, "y."), (1, "x. "), (1, "x\n"), (1, "X."), (1, None), (1, 2), (1, True), (1, ["x", "."]),
                (1, ("x.",)), (1, ("x", ".")), ((1, "x."),), [(1, "x.")], (1, Way()), (Book(), "x."), (Way(), Book()),
                (1, Book()), (1, nested(list, 7)), (nested(tuple, 7), "x.")]

    def test_things_that_are_no_pair(self):
        for thing in self.wrong_things():
            with self.subTest(thing=thing):
                for kind in (list, tuple):
                    self.check(0, kind([thing]))
                    self.check(0, kind([thing, (1, "x.")]))
                    self.check(1, kind([(7, ".."), thing]))
                    self.check(2, kind([(7, ".."), (0, ".x"), thing, thing, (8, "xx")]))

    def test_a_sum_twice(self):
        self.check(1, [(1, "x."), (1, ".x")])
        self.check(2, [(5, "x."), (1, ".x"), (5, "xx")])
        self.check(2, ((5, "x."), (1, ".x"), (1, "xx")))
        self.check(1, [(0, "x"), (0, ".")])

    def test_a_stick_twice(self):
        self.check(1, [(1, "x."), (2, "x.")])
        self.check(3, [(5, "x."), (1, ".x"), (6, "xx"), (0, "x.")])
        self.check(2, ((5, "x."), (1, ".x"), (2, ".x")))

    def test_an_entry_twice(self):
        self.check(1, [(1, "x."), (1, "x.")])

    def test_another_length(self):
        self.check(1, [(1, "x."), (2, "x")])
        self.check(1, [(1, "x."), (2, ".x.")])
        self.check(2, [(3, "x."), (2, ".x"), (1, "xxx"), (0, "xx")])
        self.check(1, [(3, "x."), (2, "xxx"), (1, "xx"), (0, "...")])

    def test_the_first_of_several_faults(self):
        self.check(1, [(1, "x."), (1, ".x"), (2, "x."), (3, "x"), None])
        self.check(1, [(1, "x."), (2, "x."), (1, ".x"), (3, "x"), None])
        self.check(1, [(1, "x."), (3, "x"), (2, "x."), (1, ".x"), None])
        self.check(1, [(1, "x."), None, (3, "x"), (2, "x."), (1, ".x")])
        self.check(0, [[1, "x."], (3, "x"), (2, "x."), (2, ".x")])
        self.check(2, [(4, "x."), (9, ".x"), (9, "x."), (True, "xx")])
        self.check(2, [(9, "x."), (4, ".x"), (True, "xx"), (9, "..")])

    def test_the_index_is_that_of_the_order_passed(self):
        self.check(3, [(9, "x.."), (5, ".x."), (7, "xx."), (1, ".x.")])

    def test_true_is_not_the_sum_one(self):
        self.check(1, [(1, "x."), (True, ".x")])
        self.check(0, [(True, "x."), (1, ".x")])


class Asking(Case):
    def test_stick_of(self):
        book = example()
        self.assertEqual([book.stick_of(value) for value in (1, 2, 5, 9)], ["x..", ".x.", "xx.", "xxx"])
        self.assertEqual(book.stick_of(value=5), "xx.")
        self.assertEqual(Book([(0, "x")]).stick_of(0), "x")

    def other_values(self):
        return [*odd_values(), 0, 3, 4, 10, -1, -2, 10 ** 30, "2", "x..", ".x.", [1], (1,), (1, "x.."), [5, 2], [], (),
                ((1, "x.."),), example().entries]

    def test_stick_of_other_values(self):
        for value in self.other_values():
            for book in (example(), Book()):
                with self.subTest(value=value), self.assertRaises(NoSum) as caught:
                    book.stick_of(value)
                self.assertIs(caught.exception.value, value)

    def test_without_other_values(self):
        for value in self.other_values():
            for book in (example(), Book()):
                with self.subTest(value=value), self.assertRaises(NoSum) as caught:
                    book.without(value)
                self.assertIs(caught.exception.value, value)

    def test_bools_are_no_sums(self):
        book = Book([(0, "x."), (1, ".x")])
        for value in (True, False):
            self.fails(NoSum, "value", value, book.stick_of, value)
            self.fails(NoSum, "value", value, book.without, value)

    def test_sum_of(self):
        book = example()
        self.assertEqual([book.sum_of(stick) for stick in ("x..", ".x.", "xx.", "xxx")], [1, 2, 5, 9])
        self.assertEqual(book.sum_of(value="xx."), 5)
        self.assertEqual(Book([(0, "x")]).sum_of("x"), 0)
        self.assertIs(type(Book([(0, "x")]).sum_of("x")), int)

    def test_sum_of_other_values(self):
        for value in [*odd_values(), 0, 1, 5, "...", "x", "xx", "xx.x", ["x.."], ("x..",), (1, "x.."), [], (), "5",
                      ("x", ".", "."), ["x", ".", "."]]:
            for book in (example(), Book()):
                with self.subTest(value=value):
                    self.assertIsNone(book.sum_of(value))

    def test_len(self):
        self.assertEqual([len(Book(ENTRIES[:many])) for many in range(5)], [0, 1, 2, 3, 4])


class Changing(Case):
    def test_without(self):
        book = example()
        for entry in ENTRIES:
            rest = tuple(other for other in ENTRIES if other != entry)
            self.holds(book.without(entry[0]), rest, 3)
            self.holds(book.without(value=entry[0]), rest, 3)
        self.holds(book, ENTRIES, 3)

    def test_without_the_last_one(self):
        self.holds(Book([(0, "x.")]).without(0), (), 0)

    def test_plus(self):
        for many in range(5):
            one, other = Book(ENTRIES[:many]), Book(ENTRIES[many:])
            self.holds(one + other, ENTRIES, 3)
            self.holds(other + one, ENTRIES, 3)
            self.holds(one, ENTRIES[:many], 3 if many else 0)
            self.holds(other, ENTRIES[many:], 3 if many < 4 else 0)

    def test_plus_sorts(self):
        self.holds(Book([(9, "x."), (1, "..")]) + Book([(5, ".x")]), ((1, ".."), (5, ".x"), (9, "x.")), 2)

    def test_plus_empty(self):
        self.holds(Book() + Book(), (), 0)
        self.holds(Book() + Book([(4, "x")]), ((4, "x"),), 1)
        self.holds(Book([(4, "x")]) + Book(), ((4, "x"),), 1)

    def test_plus_with_equals_sign_makes_a_new_book(self):
        book = held = Book([(4, "x.")])
        book += Book([(1, ".x")])
        self.holds(held, ((4, "x."),), 2)
        self.holds(book, ((1, ".x"), (4, "x.")), 2)


class Shortened(Case):
    def test_each_place(self):
        book = Book([(4, "x..x"), (2, ".xx."), (7, "xx..")])
        self.holds(book.shortened(0), ((2, "xx."), (4, "..x"), (7, "x..")), 3)
        self.holds(book.shortened(1), ((2, ".x."), (4, "x.x"), (7, "x..")), 3)
        self.holds(book.shortened(2), ((2, ".x."), (4, "x.x"), (7, "xx.")), 3)
        self.holds(book.shortened(at=3), ((2, ".xx"), (4, "x.."), (7, "xx.")), 3)
        self.holds(book, ((2, ".xx."), (4, "x..x"), (7, "xx..")), 4)

    def test_no_place(self):
        for at in (-1, -2, -3, -4, 3, 4, 10 ** 30, -10 ** 30):
            self.fails(NoPlace, "at", at, example().shortened, at)
        for at in (-1, 1, 2):
            self.fails(NoPlace, "at", at, Book([(1, "x")]).shortened, at)

    def test_no_place_is_told_ahead_of_sticks_that_fall_together(self):
        self.fails(NoPlace, "at", 2, Book([(1, "x."), (2, "..")]).shortened, 2)
        self.fails(NoPlace, "at", -2, Book([(1, "x."), (2, "..")]).shortened, -2)

    def test_empty_book(self):
        for at in (-1, 0, 1, 5):
            self.fails(NoPlace, "at", at, Book().shortened, at)

    def test_sticks_that_fall_together(self):
        self.fails(InvalidBook, "at", 1, Book([(1, "x."), (2, "..")]).shortened, 0)
        self.fails(InvalidBook, "at", 1, Book([(2, "x."), (1, "..")]).shortened, 0)
        self.fails(InvalidBook, "at", 2, example().shortened, 0)
        self.fails(InvalidBook, "at", 2, example().shortened, 1)
        self.fails(InvalidBook, "at", 3, example().shortened, 2)

    def test_the_number_is_that_of_the_ascending_entries(self):
        book = Book([(9, "x.."), (8, "..."), (1, "xx."), (5, ".x."), (3, "..x")])
        self.fails(InvalidBook, "at", 2, book.shortened, 0)
        self.fails(InvalidBook, "at", 3, book.shortened, 1)
        self.fails(InvalidBook, "at", 3, book.shortened, 2)

    def test_a_single_place(self):
        self.fails(InvalidBook, "at", 0, Book([(7, "x")]).shortened, 0)
        self.fails(InvalidBook, "at", 0, Book([(7, "x"), (2, ".")]).shortened, 0)

    def test_one_entry(self):
        self.holds(Book([(7, "x.")]).shortened(0), ((7, "."),), 1)
        self.holds(Book([(7, "x.")]).shortened(1), ((7, "x"),), 1)

    def test_many_books(self):
        chance = random.Random(6)
        for _ in range(300):
            length = chance.randint(1, 5)
            sticks = chance.sample(all_sticks(length), chance.randint(1, min(12, 2 ** length)))
            entries = sorted(zip(chance.sample(range(40), len(sticks)), sticks))
            for at in range(length):
                short = [stick[:at] + stick[at + 1:] for value, stick in entries]
                faults = [k for k, stick in enumerate(short) if stick == "" or stick in short[:k]]
                book = Book(chance.sample(entries, len(entries)))
                if faults:
                    self.fails(InvalidBook, "at", faults[0], book.shortened, at)
                else:
                    told = tuple((value, stick) for (value, _), stick in zip(entries, short))
                    self.holds(book.shortened(at), told, length - 1)


class Text(Case):
    def test_text(self):
        self.assertEqual(str(example()), "1 x..\n2 .x.\n5 xx.\n9 xxx")
        self.assertEqual(str(Book([(10, ".."), (9, "x."), (0, "xx"), (1000000, ".x")])), "0 xx\n9 x.\n10 ..\n1000000 .x")
        self.assertEqual(str(Book([(3, "x")])), "3 x")
        self.assertEqual(str(Book()), "")

    def test_there_and_back(self):
        chance = random.Random(7)
        for _ in range(100):
            length = chance.randint(1, 8)
            sticks = chance.sample(all_sticks(length), chance.randint(0, min(16, 2 ** length)))
            book = Book(list(zip(chance.sample(range(1000001), len(sticks)), sticks)))
            self.holds(Book.read(str(book)), book.entries, book.length)
            self.assertTrue(Book.read(str(book)) == book)
            lines = str(book).split("\n")
            chance.shuffle(lines)
            self.assertTrue(Book.read("\n".join(lines)) == book)

    def test_lines_in_any_order(self):
        for lines in permutations(("1 x..", "2 .x.", "5 xx.", "9 xxx")):
            self.holds(Book.read("\n".join(lines)), ENTRIES, 3)
            self.holds(Book.read(text="\n".join(lines)), ENTRIES, 3)

    def test_numbers(self):
        self.holds(Book.read("0 x\n9999999 ."), ((0, "x"), (9999999, ".")), 1)
        self.holds(Book.read("10 x"), ((10, "x"),), 1)

    def test_nothing(self):
        self.holds(Book.read(""), (), 0)

    def check(self, at, text):
        self.fails(InvalidText, "at", at, Book.read, text)

    def test_wrong_lines(self):
        for line in ("", " ", "x", "1", "1 ", " x", " 1 x", "1 x ", "1  x", "1x", "1 x x", "1 x 2", "x 1", "01 x", "00 x",
                     "007 x", "12345678 x", "00000001 x", "10000000 x", "-1 x", "+1 x", "1.0 x", "1. x", "1_0 x", "1e2 x",
                     "0x1 x", "a x", "1a x", "1 X", "1 y", "1 x,.", "1 x-", "1 o", "1, x", "1:x", "x 1 x", "1 x;"):
            with self.subTest(line=line):
                if line != "":
                    self.check(0, line)
                self.check(0, line + "\n2 .")
                self.check(1, "2 .\n" + line)
                self.check(1, "2 .\n" + line + "\n" + line)
                self.check(2, "2 .\n3 x\n" + line + "\n\n")

    def test_empty_lines(self):
        self.check(0, "\n")
        self.check(0, "\n1 x")
        self.check(1, "1 x\n")
        self.check(1, "1 x\n\n2 .")
        self.check(2, "1 x\n2 .\n")

    def test_only_newlines_part_lines(self):
        self.check(0, "1 x;2 .")
        self.check(0, "1 x ; 2 .")
        self.check(0, "1 x 2 .")

    def test_no_string(self):
        for value in [*odd_values(), 0, 1, ["1 x"], ("1 x", "2 ."), [], (), ENTRIES, list(ENTRIES)]:
            if not isinstance(value, str):
                with self.subTest(value=value):
                    self.check(0, value)

    def test_wrong_books(self):
        for at, text in (
            (1, "1 x\n1 ."), (1, "1 x\n2 x"), (1, "1 x\n2 .."), (1, "1 x\n1 x"), (2, "5 x.\n1 .x\n5 xx"),
            (3, "5 x.\n1 .x\n6 xx\n0 x."), (2, "9 x.\n8 .x\n1 x\n9 .x"), (3, "9 ...\n7 ..x\n8 .x.\n1 ..x\n2 x.."),
        ):
            with self.subTest(text=text):
                self.fails(InvalidBook, "at", at, Book.read, text)

    def test_text_is_told_ahead_of_book(self):
        self.check(2, "1 x\n1 .\n")
        self.check(3, "1 x\n2 x\n3 .\n04 .")
        self.check(1, "1 x\n1  x\n1 x")
        self.check(2, "1 x\n2 ..\nx")


class Equality(unittest.TestCase):
    def test_books(self):
        books = [Book(), Book([(0, ".")]), Book([(0, "x")]), Book([(1, "x")]), Book([(0, "x.")]),
                 Book([(0, "x"), (1, ".")]), Book([(1, "x"), (0, ".")]), Book([(10, "x")]), example(),
                 example().without(9)]
        for at, one in enumerate(books):
            for number, other in enumerate(books):
                self.assertIs(one == other, at == number)
                self.assertIs(one != other, at != number)

    def test_made_in_other_ways(self):
        for entries in permutations(ENTRIES):
            self.assertIs(Book(entries) == example(), True)
            self.assertIs(Book(list(entries)) != example(), False)
        self.assertTrue(Book() == Book([]) == Book.read("") == Book([(1, "x")]).without(1))
        self.assertTrue(example().without(9) + Book([(9, "xxx")]) == example())

    def test_other_objects(self):
        for book in (Book(), Book([(1, "x")]), example()):
            for value in (str(book), book.entries, list(book.entries), len(book), book.length, None, True, False, 0, 1,
                          "", [], (), [book], (book,), Way(), errors.NoSum(1), errors.InvalidStick()):
                with self.subTest(value=value):
                    self.assertIs(book == value, False)
                    self.assertIs(value == book, False)
                    self.assertIs(book != value, True)


if __name__ == "__main__":
    unittest.main()
