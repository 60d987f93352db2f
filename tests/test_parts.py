"""[9] rows, safe parts, greatest safe lots."""

import random
import unittest
from itertools import combinations

from notchsafe.books import Book
from notchsafe.frauds import is_safe
from notchsafe.parts import fewest_rows, greatest_safe, height, longest_row, safe_parts, shows
from notchsafe.ways import Way
from tests.samples import all_sticks, any_values, book_of, example, lies_within, made_book

ROW_OF_NINE = book_of(*["x" * many + "." * (8 - many) for many in range(9)])
APART = book_of(*[stick for stick in all_sticks(6) if stick.count("x") == 2])
TURNED = Book([(9, "..."), (4, "x.."), (7, "x.x"), (1, "xxx"), (5, ".x.")])


def is_row(book, row):
    told = dict(book.entries)
    return all(lies_within(told[a], told[b]) for a, b in zip(row, row[1:]))


def is_lot(book, lot):
    told = dict(book.entries)
    return list(lot) == sorted(set(lot)) and not any(lies_within(told[a], told[b]) for a in lot for b in lot)


def lots(book):
    """All lots of sums of a small book, by their lengths."""
    sums = [value for value, _ in book.entries]
    return [lot for many in range(len(sums) + 1) for lot in combinations(sums, many)]


def greatest_by_trying(book):
    return max(len(lot) for lot in lots(book) if is_lot(book, lot))


def height_by_trying(book):
    told = dict(book.entries)
    return max(len(lot) for lot in lots(book)
               if is_row(book, sorted(lot, key=lambda value: told[value].count("x"))))


def shown_by_rule(book, value):
    """What `shows` has to tell, word by word."""
    told = dict(book.entries)

    def are_sums(row):
        return type(row) is tuple and all(type(a) is int and a in told for a in row)

    if type(value) is not tuple or len(value) != 2 or type(value[1]) is not tuple:
        return False
    lot, rows = value
    if not are_sums(lot) or not all(are_sums(row) and len(row) > 0 for row in rows):
        return False
    once = sorted(a for row in rows for a in row) == sorted(told)
    return is_lot(book, lot) and once and all(is_row(book, row) for row in rows) and len(lot) == len(rows)


class Parts(unittest.TestCase):
    def check(self, book):
        """All that is promised of a book but for the numbers; these are returned."""
        sums = [value for value, _ in book.entries]
        row, parts, rows, lot = longest_row(book), safe_parts(book), fewest_rows(book), greatest_safe(book)
        with self.subTest(book=str(book)):
            self.assertEqual({type(thing) for thing in (row, parts, rows, lot, *parts, *rows)}, {tuple})
            self.assertEqual(len(row), height(book))
            self.assertTrue(set(row) <= set(sums) and is_row(book, row), row)
            self.assertEqual(len(parts), height(book))
            self.assertEqual(sorted(value for part in parts for value in part), sums)
            for part in parts:
                self.assertTrue(len(part) > 0 and is_lot(book, part), parts)
                self.assertIs(is_safe(Book([(value, book.stick_of(value)) for value in part]), Way()), True)
            self.assertEqual(sorted(value for one in rows for value in one), sums)
            for one in rows:
                self.assertTrue(len(one) > 0 and is_row(book, one), rows)
            self.assertTrue(set(lot) <= set(sums) and is_lot(book, lot), lot)
            # A lot has at most one sum of each row, so there is no greater one, and no fewer rows.
            self.assertEqual(len(lot), len(rows))
            self.assertIs(shows(book, (lot, rows)), True)
        return height(book), len(rows)

    def test_example(self):
        book = example()
        self.assertEqual(
            (height(book), len(safe_parts(book)), greatest_safe(book), len(fewest_rows(book))), (3, 3, (1, 2), 2))
        self.assertIs(shows(book, ((1, 2), ((1, 5, 9), (2,)))), True)
        self.assertIn(longest_row(book), ((1, 5, 9), (2, 5, 9)))
        self.assertEqual(sorted(safe_parts(book)), [(1, 2), (5,), (9,)])
        self.assertEqual(self.check(book), (3, 2))

    def test_empty_book(self):
        self.assertEqual(height(Book()), 0)
        for function in (longest_row, safe_parts, fewest_rows, greatest_safe):
            self.assertEqual(function(Book()), ())

    def test_one_entry(self):
        for stick in (".", "x", "x.x.x.x.", "........"):
            book = Book([(0, stick)])
            self.assertEqual(height(book), 1)
            self.assertEqual((longest_row(book), greatest_safe(book)), ((0,), (0,)))
            self.assertEqual((safe_parts(book), fewest_rows(book)), (((0,),), ((0,),)))

    def test_all_in_one_row(self):
        self.assertEqual(self.check(ROW_OF_NINE), (9, 1))
        self.assertEqual(longest_row(ROW_OF_NINE), (1, 2, 3, 4, 5, 6, 7, 8, 9))
        self.assertEqual(fewest_rows(ROW_OF_NINE), ((1, 2, 3, 4, 5, 6, 7, 8, 9),))
        self.assertEqual(sorted(safe_parts(ROW_OF_NINE)), [(value,) for value in range(1, 10)])
        # The sums need not ascend as the notches do.
        book = Book([(9, "..."), (4, "x.."), (7, "x.x"), (1, "xxx")])
        self.assertEqual(self.check(book), (4, 1))
        self.assertEqual((longest_row(book), fewest_rows(book)), ((9, 4, 7, 1), ((9, 4, 7, 1),)))

    def test_rows_may_leap(self):
        book = Book([(3, "...."), (2, "xxxx"), (1, "xx..")])
        self.assertEqual(self.check(book), (3, 1))
        self.assertEqual(self.check(Book([(3, "...."), (2, "xxxx")])), (2, 1))

    def test_none_within_another_one(self):
        self.assertEqual(self.check(APART), (1, 15))
        self.assertEqual(greatest_safe(APART), tuple(range(1, 16)))
        self.assertEqual(safe_parts(APART), (tuple(range(1, 16)),))
        self.assertEqual(sorted(fewest_rows(APART)), [(value,) for value in range(1, 16)])
        self.assertEqual(self.check(Book([(3, "xx.."), (2, "..x."), (1, "...x")])), (1, 3))

    def test_a_greatest_lot_of_several_levels(self):
        book = book_of("x....", "xx...", "xxx..", "xxxx.", "....x", "...x.")
        self.assertEqual(self.check(book), (4, 3))
        book = book_of("x.......", "xx......", "xxx.....", ".xx.....", "...x....", "...xx...", "....xx..")
        self.assertEqual((self.check(book)), (3, 4))

    def test_takers_in_turn(self):
        # If each sum takes the first one that it can, later sums must take theirs over, two and three times in turn.
        for book in (book_of("x...", ".x..", "xx..", "x.x."), book_of("..x.", "x...", ".x..", "xx..", "x.x.", "..xx"),
                     book_of("x....", ".x...", "..x..", "xx...", ".xx..", "..xx.", "x...x")):
            self.check(book)
        self.assertEqual(self.check(book_of("x...", ".x..", "xx..", "x.x.")), (2, 2))
        self.assertEqual(self.check(book_of(".xx..", "x.x..", "xx...", "xxx..", ".xxx.", "x.x.x")), (2, 3))

    def test_small_books_by_trying_all(self):
        chance = random.Random(9)
        for _ in range(150):
            book = made_book(chance, chance.randint(1, 5), chance.randint(0, 9))
            self.assertEqual(self.check(book), (height_by_trying(book), greatest_by_trying(book)), str(book))

    def test_sixteen_entries_of_eight_places(self):
        chance = random.Random(16)
        for _ in range(25):
            self.check(made_book(chance, 8, 16))
        for _ in range(5):
            ends = [stick for stick in all_sticks(8) if stick.count("x") in (3, 4, 5)]
            self.check(Book(list(zip(chance.sample(range(100), 16), chance.sample(ends, 16)))))
        self.assertEqual(self.check(made_book(chance, 4, 16)), (5, 6))

    def test_greater_books(self):
        sticks = all_sticks(6)
        book = Book()
        for first in range(0, 64, 16):
            book = book + Book([(999 - at, sticks[at]) for at in range(first, first + 16)])
        self.assertEqual(self.check(book), (7, 20))

    def test_additions_without_bounds_count(self):
        self.assertEqual(height(Book([(1, "........"), (2, "xxxxxxxx")])), 2)
        self.assertEqual(greatest_safe(Book([(1, "........"), (2, "xxxxxxxx")])) in ((1,), (2,)), True)

    def test_same_call_same_result(self):
        chance = random.Random(2)
        for book in (example(), TURNED, made_book(chance, 4, 12)):
            for function in (height, longest_row, safe_parts, fewest_rows, greatest_safe):
                first = function(book)
                shows(book, (greatest_safe(book), fewest_rows(book)))
                self.assertEqual(function(book), first)
                self.assertEqual(function(Book(list(book.entries)[::-1])), first)
                self.assertEqual(function(book=book), first)


class Shows(unittest.TestCase):
    def test_by_name(self):
        self.assertIs(shows(value=((1, 2), ((1, 5, 9), (2,))), book=example()), True)

    def test_what_is_told(self):
        for book in (example(), Book(), Book([(0, "x")]), ROW_OF_NINE, APART, TURNED):
            self.assertIs(shows(book, (greatest_safe(book), fewest_rows(book))), True)

    def test_each_correct_pair(self):
        for rows in (((1, 5, 9), (2,)), ((2,), (1, 5, 9)), ((2, 5, 9), (1,)), ((1,), (2, 5, 9)), ((1, 5), (2, 9)),
                     ((1, 9), (2, 5)), ((2, 9), (1, 5))):
            self.assertIs(shows(example(), ((1, 2), rows)), True)
        for lot in ((1,), (2,), (9,)):
            self.assertIs(shows(Book([(1, "."), (2, "x")]), (lot, ((1, 2),))), lot != (9,))

    def test_wrong_lots(self):
        rows = ((1, 5, 9), (2,))
        for lot in ((), (1,), (2,), (2, 1), (1, 1), (2, 2), (1, 2, 2), (1, 1, 2), (1, 2, 5), (1, 5), (5, 9), (2, 9),
                    (1, 3), (0, 1), (1, 77), (3, 4), [1, 2], ([1], 2), ((1,), (2,)), ((1, 2),), (1, None), (1, "2"),
                    (True, 2), (1, 2, None), ("1", "2"), 12, None, "12", Book(), example(), (Way(), Way())):
            with self.subTest(lot=lot):
                self.assertIs(shows(example(), (lot, rows)), False)

    def test_wrong_rows(self):
        for rows in ((), ((1, 5, 9, 2),), ((1, 5, 9),), ((1, 5, 9), ()), ((1, 5, 9), (2,), ()), ((), (1, 5, 9), (2,)),
                     ((9, 5, 1), (2,)), ((5, 1, 9), (2,)), ((1, 9, 5), (2,)), ((1, 5, 9), (2, 2)), ((1, 1, 5, 9), (2,)),
                     ((1, 5, 9), (2, 5)), ((1, 5, 9), (2, 9)), ((1, 5), (2,)), ((1, 5), (2,), (9,)), ((1, 5, 9), (3,)),
                     ((1, 5, 9), (2, 3)), ((1, 5, 9), (1, 2)), ((1, 2), (5, 9)), ((2, 1), (5, 9)), ((1, 5, 9), 2),
                     (1, 5, 9, 2), ([1, 5, 9], (2,)), ((1, 5, 9), [2]), [(1, 5, 9), (2,)], ((True, 5, 9), (2,)),
                     ((1, 5, 9), ("2",)), ((1, 5, 9), (None,)), (((1,), 5, 9), (2,)), ((1, 5, 9), ((2,),)),
                     ((1, 5, 9), ([2],)), ((1, 5, 9), (2, None)), ((1, 5, 9), "2"), ((1, 5, 9), None), None, 2, "ab",
                     ((1, 5, 9), example()), example(), ((1, 5, 9), (Way(),)), (Way(), Book())):
            with self.subTest(rows=rows):
                self.assertIs(shows(example(), ((1, 2), rows)), False)

    def test_wrong_pairs(self):
        lot, rows = (1, 2), ((1, 5, 9), (2,))
        for value in ([lot, rows], (rows, lot), (lot, rows, lot), (lot, rows, ()), (lot,), (rows,), lot, rows, (), (lot, lot),
                      (rows, rows), ((lot, rows),), (lot, (rows,)), ((lot,), rows)):
            with self.subTest(value=value):
                self.assertIs(shows(example(), value), False)

    def test_as_many_in_the_lot_as_rows(self):
        book = example()
        self.assertIs(shows(book, ((1, 2), ((1, 5, 9), (2,)))), True)
        self.assertIs(shows(book, ((1, 2), ((1, 5), (2,), (9,)))), False)
        self.assertIs(shows(book, ((1,), ((1, 5, 9), (2,)))), False)
        self.assertIs(shows(book, ((9,), ((1, 5, 9), (2,)))), False)
        self.assertIs(shows(book, ((), ((1, 5, 9), (2,)))), False)

    def test_bools(self):
        book = Book([(0, "."), (1, "x")])
        for value in (((0,), ((0, 1),)), ((1,), ((0, 1),))):
            self.assertIs(shows(book, value), True)
        for value in (((False,), ((0, 1),)), ((True,), ((0, 1),)), ((0,), ((False, 1),)), ((0,), ((0, True),)),
                      ((0,), ((False, True),)), ((False,), ((False, True),))):
            self.assertIs(shows(book, value), False)

    def test_empty_book(self):
        self.assertIs(shows(Book(), ((), ())), True)
        for value in ((), ((),), ((), (), ()), ([], []), [(), ()], ((), []), ([], ()), ((), ((),)), (((),), ()), ((1,), ((1,),)),
                      ((0,), ()), ((), (0,)), None, 0, "", "xx", False, Book()):
            with self.subTest(value=value):
                self.assertIs(shows(Book(), value), False)

    def test_any_value(self):
        for book in (example(), Book([(0, "x"), (1, ".")]), ROW_OF_NINE):
            lot, rows = greatest_safe(book), fewest_rows(book)
            for thing in any_values():
                self.assertIs(shows(book, thing), False)
                for value in ((thing, thing), (thing,), (lot, rows, thing), (lot + (thing,), rows),
                              (lot, rows + (thing,)), (lot, rows + ((thing,),))):
                    with self.subTest(value=value):
                        self.assertIs(shows(book, value), False)
                for value in ((lot, thing), (thing, rows), ((thing,), rows), (lot, (thing,)), (lot, ((thing,),))):
                    with self.subTest(value=value):
                        self.assertIs(shows(book, value), shown_by_rule(book, value))

    def test_pairs_with_something_otherwise(self):
        chance = random.Random(90)
        found = {True: 0, False: 0}
        for _ in range(60):
            book = made_book(chance, chance.randint(2, 5), chance.randint(1, 12))
            for _ in range(30):
                value = changed(chance, book, greatest_safe(book), fewest_rows(book))
                with self.subTest(book=str(book), value=value):
                    expected = shown_by_rule(book, value)
                    self.assertIs(shows(book, value), expected)
                    found[expected] += 1
        self.assertGreater(min(found.values()), 200)

    def test_nothing_passed_is_changed(self):
        rows = [[1, 5, 9], [2]]
        value = ([1, 2], rows)
        self.assertIs(shows(example(), value), False)
        self.assertEqual(value, ([1, 2], [[1, 5, 9], [2]]))


def changed(chance, book, lot, rows):
    """A pair with one thing otherwise."""
    sums = [value for value, _ in book.entries]
    lot, rows = list(lot), [list(row) for row in rows]
    row = chance.choice(rows)
    at, worth = chance.randrange(len(row)), chance.choice([*sums, 100, -1])
    kind = chance.randrange(12)
    if kind == 0:
        lot.insert(chance.randrange(len(lot) + 1), worth)
    elif kind == 1:
        lot.pop(chance.randrange(len(lot)))
    elif kind == 2:
        chance.shuffle(lot)
    elif kind == 3:
        lot[chance.randrange(len(lot))] = worth
    elif kind == 4:
        row[at] = worth
    elif kind == 5:
        row.insert(at, worth)
    elif kind == 6:
        row.pop(at)
    elif kind == 7:
        rows.append(row[at:])
        del row[at:]
    elif kind == 8:
        row.reverse()
    elif kind == 9:
        other = rows.pop()
        rows[0:1] = [other + (rows[0] if rows else [])]
    elif kind == 10:
        chance.shuffle(rows)
    return tuple(lot), tuple(tuple(one) for one in rows)


if __name__ == "__main__":
    unittest.main()
