"""[1] and [2] the basics, across the modules."""

import unittest

from notchsafe import errors
from notchsafe.books import Book
from notchsafe.checkrules import CheckRule
from notchsafe.checks import check_size, checked, fewest_checks, is_checked, with_checks
from notchsafe.comparing import alike, needless, turning
from notchsafe.desk import Desk
from notchsafe.errors import (
    InvalidBook, InvalidCommand, InvalidRule, InvalidStick, InvalidText, InvalidWay, NoPlace, NoStick, NoSum, Refused,
)
from notchsafe.frauds import frauds, is_safe, origins, raised, told_sums
from notchsafe.ledger import Ledger
from notchsafe.middles import all_chains, chains_hold, middle, widest
from notchsafe.numbers import how_many, number_of, stick_at
from notchsafe.parts import fewest_rows, greatest_safe, height, longest_row, safe_parts, shows
from notchsafe.ways import Way
from tests.samples import example


class Kinds(unittest.TestCase):
    def test_bools_are_no_integers(self):
        for value in (True, False):
            for work in (lambda: Way("add", value), lambda: Way("add", None, [value])):
                self.assertRaises(InvalidWay, work)
            self.assertRaises(InvalidBook, Book, [(value, "x")])
            self.assertRaises(NoSum, Book([(0, "x"), (1, ".")]).stick_of, value)
            self.assertRaises(NoSum, Book([(0, "x"), (1, ".")]).without, value)
            ledger = Ledger(Book([(0, "xx"), (1, "..")]))
            self.assertRaises(NoSum, ledger.write, value)
            self.assertRaises(NoSum, ledger.several, [0, value])
            ledger.several([1, 1])
            self.assertRaises(Refused, ledger.notch, value, 0)
            self.assertRaises(NoPlace, ledger.notch, 0, value)
            self.assertRaises(InvalidRule, CheckRule, [value])
            self.assertRaises(InvalidCommand, Desk().say, value)

    def test_sticks(self):
        for stick in (".", "x", "..", "x.", "........", "xxxxxxxx", "x" * 9):
            self.assertIs(Way().can(stick, stick), True)
            self.assertEqual(Book([(1, stick)]).length, len(stick))
            self.assertEqual(origins(Book(), stick, Way()), ())
        for value in ("", " ", "o", "X", "x,", "x x", "x\n", "1", "-", "xy", None, 0, True, ["x"], ("x",)):
            with self.subTest(value=value):
                self.assertRaises(InvalidStick, Way().can, value, "x")
                self.assertRaises(InvalidStick, origins, Book(), value, Way())
                self.assertRaises(InvalidBook, Book, [(1, value)])
                self.assertRaises(InvalidRule, CheckRule, [value])
                self.assertRaises(InvalidStick, CheckRule(["x"]).put, value)

    def test_no_other_sign_stands_in_a_stick(self):
        for sign in [chr(code) for code in range(256)] + ["\u2026", "\u00d7", "\u2715", "\uff0e", "\uff58"]:
            if sign not in ".x":
                for value in (sign, sign + ".x", ".x" + sign, "." + sign + "x"):
                    with self.subTest(value=value):
                        self.assertRaises(InvalidStick, Way().can, value, value)
                        self.assertRaises(InvalidStick, origins, example(), value, Way())
                        self.assertRaises(InvalidStick, told_sums, example(), value, Way())
                        self.assertRaises(InvalidBook, Book, [(1, value)])
                        self.assertRaises(InvalidRule, CheckRule, [value])
                        self.assertRaises(InvalidStick, CheckRule(["x"]).put, value)
                        if " " <= sign <= "~":
                            self.assertRaises(InvalidText, Book.read, "1 " + value)

    def test_sequences_are_lists_and_tuples(self):
        self.assertEqual(Way(part=[1, 0]).part, Way(part=(1, 0)).part)
        self.assertEqual(Book([(1, "x")]).entries, Book(((1, "x"),)).entries)
        for value in ("", "01", {}, {0: 1}, {0}, frozenset([0]), range(2), b"", b"0", iter([0]), Book(), None):
            with self.subTest(value=value):
                self.assertRaises(InvalidBook, Book, value)
                self.assertRaises(InvalidRule, CheckRule, value)
                if value is not None:
                    self.assertRaises(InvalidWay, Way, "add", None, value)

    def test_signs_are_in_the_order_of_python(self):
        self.assertLess(".", "x")
        self.assertEqual(Book([(2, "."), (1, "x")]).entries, ((1, "x"), (2, ".")))


class NeverChanging(unittest.TestCase):
    def test_nothing_passed_is_changed(self):
        entries, part = [(5, "x."), (2, ".x")], [1, 0, 1]
        book, way = Book(entries), Way("mixed", 2, part)
        Book.read("1 x").without(1)
        for work in (frauds, is_safe, raised):
            work(book, way)
        origins(book, "xx", way)
        told_sums(book, "xx", way)
        self.assertEqual(entries, [(5, "x."), (2, ".x")])
        self.assertEqual(part, [1, 0, 1])
        self.assertEqual((book.entries, book.length, str(book)), (((2, ".x"), (5, "x.")), 2, "2 .x\n5 x."))
        self.assertEqual((way.how, way.most, way.part, str(way)), ("mixed", 2, (0, 1), "mixed at most 2 within 0 1"))

    def test_nothing_passed_to_parts_and_checks_is_changed(self):
        book = example()
        for work in (height, longest_row, safe_parts, fewest_rows, greatest_safe, fewest_checks, with_checks):
            work(book)
        value, chains = [[2, 1], [[1, 9, 5], [2]]], [["..", "xx", ".x"], ["x."]]
        for thing in (value, tuple(value), (tuple(value[0]), value[1]), value[0]):
            self.assertIs(shows(book, thing), False)
        for thing in (chains, tuple(chains), chains[0], (tuple(chains[0]), chains[1])):
            self.assertIs(chains_hold(2, thing), False)
            self.assertIs(is_checked(2, thing), False)
        self.assertEqual(value, [[2, 1], [[1, 9, 5], [2]]])
        self.assertEqual(chains, [["..", "xx", ".x"], ["x."]])
        self.assertEqual(book.entries, ((1, "x.."), (2, ".x."), (5, "xx."), (9, "xxx")))

    def test_nothing_passed_to_comparing_ledgers_and_rules_is_changed(self):
        book, other, checks, values = example(), Book([(3, ".."), (1, "x.")]), ["x.", "..", "xx"], [5, 1, 5]
        for p, q in ((book, other), (other, book), (book, book)):
            self.assertIs(alike(p, q), p == q)
            self.assertEqual(turning(p, q) is None, p != q)
        needless(book), needless(other)
        rule = CheckRule(checks)
        rule.put("x"), rule.is_safe(5, 2), rule.always_safe(None), rule.first_unsafe(2), rule.fraud(9, None)
        ledger = Ledger(book)
        ledger.several(values)
        ledger.notch(1, 2)
        ledger.within(lambda held: held.several(values))
        self.assertEqual((checks, values, rule.checks), (["x.", "..", "xx"], [5, 1, 5], ("x.", "..", "xx")))
        self.assertEqual((str(book), str(other)), ("1 x..\n2 .x.\n5 xx.\n9 xxx", "1 x.\n3 .."))

    def test_a_list_behind_a_book_changes_no_part(self):
        entries = [(5, "x."), (2, "xx")]
        book = Book(entries)
        works = (height, longest_row, safe_parts, fewest_rows, greatest_safe, fewest_checks, with_checks)
        before = [work(book) for work in works]
        entries[0] = (1, "..")
        entries.append((9, ".x"))
        self.assertEqual([work(book) for work in works], before)
        self.assertEqual(before[:5], [2, (5, 2), before[2], ((5, 2),), before[4]])

    def test_a_wrong_list_is_not_changed(self):
        entries, part = [(5, "x."), (2, "x."), [1]], [3, 1, -1]
        self.assertRaises(InvalidBook, Book, entries)
        self.assertRaises(InvalidWay, Way, "add", None, part)
        self.assertEqual((entries, part), ([(5, "x."), (2, "x."), [1]], [3, 1, -1]))

    def test_a_list_changed_behind_a_call_changes_nothing(self):
        entries, part = [(5, "x."), (2, "xx")], [1, 0]
        book, way = Book(entries), Way("add", None, part)
        before = frauds(book, way), raised(book, way), origins(book, "xx", way), str(book), str(way)
        entries.append((9, ".."))
        entries.reverse()
        part.pop(0)
        part.append(7)
        self.assertEqual((frauds(book, way), raised(book, way), origins(book, "xx", way), str(book), str(way)), before)
        self.assertEqual(before[0], ((5, 2),))

    def test_same_call_same_result(self):
        book, way, rule = example(), Way("mixed", 2, [0, 1]), CheckRule(["x.", "..", ".x"])
        turned, ledger, desk = Book([(1, "..x"), (2, ".x."), (5, ".xx"), (9, "xxx")]), Ledger(book), Desk()
        ledger.several([1, 9])
        for command in ("book 3 x. ; 4 xx", "write 3"):
            desk.say(command)
        calls = (
            lambda: frauds(book, way), lambda: is_safe(book, way), lambda: raised(book, way),
            lambda: origins(book, "xx.", way), lambda: told_sums(book, "xx.", way), lambda: book.stick_of(5),
            lambda: book.sum_of("xx."), lambda: book.without(5).entries, lambda: str(Book([(1, "x.")]).shortened(0)),
            lambda: (book + Book([(4, "...")])).entries, lambda: str(book), lambda: len(book), lambda: str(way),
            lambda: way.can("x..", ".x."), lambda: Book.read("1 x").entries,
            lambda: height(book), lambda: longest_row(book), lambda: safe_parts(book), lambda: fewest_rows(book),
            lambda: greatest_safe(book), lambda: shows(book, ((1, 2), ((1, 5, 9), (2,)))),
            lambda: shows(book, ((1, 2), ((1, 5), (2,)))), lambda: widest(5), lambda: middle(4), lambda: all_chains(4),
            lambda: chains_hold(3, all_chains(3)), lambda: chains_hold(3, all_chains(4)), lambda: how_many(9, 4),
            lambda: stick_at(9, 4, 77), lambda: number_of("x.x.."), lambda: check_size(8), lambda: checked("x.x"),
            lambda: is_checked(3, "x.x.x"), lambda: fewest_checks(book), lambda: with_checks(book).entries,
            lambda: rule.put("x.x"), lambda: rule.is_safe(4, 3), lambda: rule.is_safe(9, None), lambda: str(rule),
            lambda: rule.always_safe(1), lambda: rule.first_unsafe(None), lambda: rule.fraud(7, 5), lambda: rule.checks,
            lambda: alike(book, book), lambda: turning(book, turned), lambda: turning(turned, book),
            lambda: alike(book, book.without(1)), lambda: needless(book), lambda: needless(book.without(9)),
            lambda: (ledger.sticks, ledger.sums, ledger.totals, len(ledger)), lambda: ledger.within(len),
            lambda: ledger.within(lambda held: (held.write(5), held.undo(), held.undo(), held.sums)),
            lambda: desk.say("sums"), lambda: desk.say("totals"), lambda: desk.say("frauds"), lambda: desk.say("safe"),
            lambda: len(desk),
        )
        first = [work() for work in calls]
        for work in reversed(calls):
            work()
        for value in (None, 77, "x"):
            self.assertRaises(NoSum, book.without, value)
            self.assertRaises(InvalidStick, way.can, value, "")
            self.assertRaises(InvalidStick, number_of, [value])
            self.assertRaises(InvalidStick, checked, [value])
            self.assertRaises(NoStick, stick_at, 9, 4, -1)
            self.assertRaises(InvalidStick, rule.put, [value])
            self.assertRaises(NoSum, ledger.several, [1, value])
            self.assertRaises(Refused, ledger.notch, value, 0)
            self.assertRaises(InvalidCommand, desk.say, value)
            self.assertRaises(NoSum, desk.say, "write 9")
        self.assertEqual([work() for work in calls], first)

    def test_made_books_do_not_change_the_first_one(self):
        book = example()
        book.without(5)
        book + Book([(4, "...")])
        Book([(4, "...")]) + book
        self.assertEqual(book.entries, ((1, "x.."), (2, ".x."), (5, "xx."), (9, "xxx")))


class NoResults(unittest.TestCase):
    def test_methods_without_a_described_result(self):
        ledger = Ledger(example())
        for result in (ledger.write(1), ledger.notch(0, 1), ledger.several([]), ledger.several([1, 2]),
                       ledger.within(lambda held: held.write(9))):
            self.assertIsNone(result)


class Tuples(unittest.TestCase):
    def test_sequences_that_are_returned(self):
        for book in (Book(), example(), Book([(3, "x")])):
            results = [longest_row(book), greatest_safe(book), safe_parts(book), fewest_rows(book)]
            results += [*safe_parts(book), *fewest_rows(book), with_checks(book).entries]
            for result in results:
                self.assertIs(type(result), tuple)
        for book in (Book(), example(), Book([(3, "x.")])):
            ledger = Ledger(book)
            for result in (turning(book, book), needless(book), ledger.sticks, ledger.sums, ledger.totals):
                self.assertIs(type(result), tuple)
            ledger.several([value for value, _ in book.entries])
            for result in (ledger.sticks, ledger.sums, ledger.totals):
                self.assertIs(type(result), tuple)
        rule = CheckRule(["x.", ".."])
        for result in (rule.checks, rule.fraud(2, None), CheckRule(("x", ".")).checks):
            self.assertIs(type(result), tuple)
        for length in (1, 2, 3, 4):
            for result in (middle(length), all_chains(length), *all_chains(length)):
                self.assertIs(type(result), tuple)


class NotIterable(unittest.TestCase):
    def test_objects(self):
        things = [Book(), example(), Way(), Way("add", 1, [0, 1]), errors.NoSum([1, 2]), errors.InvalidStick(),
                  errors.InvalidBook((0,)), errors.InvalidWay("how"), CheckRule(["x", "."]), Ledger(Book()),
                  Ledger(example()), Ledger(example()).trial(), Desk()]
        things[-3].several([1, 9])
        things[-1].say("book 1 x")
        for thing in things:
            with self.subTest(thing=str(thing)):
                for work in (iter, list, tuple, sorted, lambda rows: [*rows], lambda rows: 1 in rows,
                             lambda rows: [row for row in rows]):
                    with self.assertRaises(TypeError):
                        work(thing)


class Truth(unittest.TestCase):
    def test_told_by_true_or_false(self):
        for result in (Way().can("x", "x"), Way().can("x", "."), Way().can("x", ".."), Way("add", 0).can(".", "x"),
                       Way("add", None, []).can(".", "x"), is_safe(Book(), Way()), is_safe(example(), Way()),
                       Way() == Way(), Way() == 1, Book() == Book(), Book() == (),
                       shows(Book(), ((), ())), shows(Book(), ()), shows(Book(), None), shows(example(), ((1,), ((1,),))),
                       shows(example(), ((), ())), shows(example(), ((1, 2), ((1, 5, 9), (2,)))), chains_hold(1, None),
                       chains_hold(1, ((),)), chains_hold(1, ((".", "x"),)), is_checked(1, None), is_checked(1, ""),
                       is_checked(1, "xx"), is_checked(1, "x."), is_checked(1, "x"), CheckRule(["x"]).is_safe(1, 1),
                       CheckRule(["xx", ".."]).is_safe(1, 1), CheckRule(["x"]).always_safe(None),
                       CheckRule(["x", "."]).always_safe(1), CheckRule(["x"]) == CheckRule(["x"]), CheckRule(["x"]) == 1,
                       alike(Book(), Book()), alike(Book(), example()), alike(example(), example()),
                       alike(example(), example().without(1)), Ledger(Book()).undo()):
            self.assertIs(type(result), bool)

    def test_equal_to_no_object_of_another_class(self):
        self.assertFalse(Way() == Book())
        self.assertFalse(Book() == Way())
        self.assertTrue(Way() != Book())
        things = [Way(), Book(), Book([(1, "x")]), CheckRule(["x"]), CheckRule(["x", "."])]
        for at, one in enumerate(things):
            for number, other in enumerate([*things, Ledger(Book()), Desk(), errors.NoSum(1), "x", "", None, 1, (), []]):
                self.assertIs(one == other, at == number)
                self.assertIs(other == one, at == number)


if __name__ == "__main__":
    unittest.main()
