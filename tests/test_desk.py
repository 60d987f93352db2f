"""[19] and [20] desks."""

import random
import unittest

from notchsafe.desk import Desk
from notchsafe.errors import InvalidBook, InvalidCommand, InvalidText, NoPlace, NoSum, Refused
from tests.samples import all_sticks, any_values, lies_within

BOOK = "book 1 x.. ; 2 .x. ; 5 xx."
ASKING = ("sums", "totals", "frauds", "safe")


class Case(unittest.TestCase):
    def said(self, *commands):
        desk = Desk()
        for command in commands:
            desk.say(command)
        return desk

    def says(self, desk, command, result):
        told = desk.say(command)
        self.assertEqual(told, result, command)
        self.assertIs(type(told), str)

    def state(self, desk):
        return [desk.say(command) for command in ASKING] + [len(desk)]

    def fails(self, desk, kind, word, value, command):
        """The error is told, and the desk stays as it was."""
        before = self.state(desk)
        with self.subTest(command=command):
            with self.assertRaises(kind) as caught:
                desk.say(command)
            self.assertIs(type(caught.exception), kind)
            if word is not None:
                told = getattr(caught.exception, word)
                self.assertEqual((type(told), told), (type(value), value))
            self.assertEqual(self.state(desk), before)

    def is_invalid(self, desk, command):
        self.fails(desk, InvalidCommand, None, None, command)


class Example(Case):
    def test_document(self):
        desk = Desk()
        commands = ("book 1 x.. ; 2 .x. ; 5 xx.", "write 1", "write 2", "notch 0 1", "sums", "totals", "frauds", "undo")
        self.assertEqual([desk.say(word) for word in commands],
                         ["3", "x..", ".x.", "xx.", "5 2", "3 7", "1>5 2>5", "undone"])

    def test_len_behind_each_command(self):
        desk, found = Desk(), []
        for command in (BOOK, "write 1", "sums", "notch 0 1", "totals", "undo", "safe", "book 7 x", "frauds", "write 7",
                        "undo", "undo", "undo", "undo", "undo", "sums"):
            desk.say(command)
            found.append(len(desk))
        self.assertEqual(found, [1, 2, 2, 3, 3, 2, 2, 3, 3, 4, 3, 2, 1, 0, 0, 0])
        self.assertEqual(len(Desk()), 0)

    def test_by_name(self):
        self.assertEqual(Desk().say(command="totals"), "0 0")


class Empty(Case):
    def test_at_first_the_book_is_empty(self):
        for command, result in (("sums", "none"), ("totals", "0 0"), ("frauds", "none"), ("safe", "0"), ("undo", "nothing")):
            desk = Desk()
            self.says(desk, command, result)
            self.assertEqual(len(desk), 0)

    def test_there_is_no_sum_and_no_stick(self):
        desk = Desk()
        self.fails(desk, NoSum, "value", 1, "write 1")
        self.fails(desk, NoSum, "value", 0, "write 0")
        self.fails(desk, Refused, "at", 0, "notch 0 0")


class BookCommand(Case):
    def test_numbers_of_entries(self):
        for text, many in (("0 x", "1"), ("1 x.. ; 2 .x.", "2"), ("9999999 x ; 3 .", "2"), ("9 xx ; 1 .. ; 4 .x", "3")):
            self.says(Desk(), "book " + text, many)
        sticks = all_sticks(4)
        self.says(Desk(), "book " + " ; ".join(f"{value} {stick}" for value, stick in enumerate(sticks)), "16")

    def test_a_new_ledger(self):
        desk = self.said(BOOK, "write 1", "notch 0 1")
        self.says(desk, "book 7 x ; 8 .", "2")
        self.assertEqual(self.state(desk), ["none", "0 0", "8>7", "1", 4])
        self.says(desk, "write 8", ".")
        self.says(desk, "notch 0 0", "x")
        self.says(desk, "totals", "7 8")
        self.fails(desk, NoSum, "value", 1, "write 1")

    def test_the_same_book_again_is_a_new_ledger(self):
        desk = self.said(BOOK, "write 1", BOOK)
        self.assertEqual(self.state(desk), ["none", "0 0", "1>5 2>5", "2", 3])

    def test_at_least_one_word(self):
        for desk in (Desk(), self.said(BOOK, "write 1")):
            for command in ("book", "book ", "book  ", " book"):
                self.is_invalid(desk, command)

    def test_texts_that_are_none(self):
        for desk in (Desk(), self.said(BOOK, "write 1")):
            for text, at in (("x", 0), ("1", 0), ("none", 0), ("1 x 2", 0), ("1 x 2 .", 0), ("x 1", 0), ("01 x", 0),
                             ("12345678 x", 0), ("-1 x", 0), ("1 y", 0), ("1 x ; 2", 1), ("1 x ; 1x", 1), ("1 x;2 .", 0),
                             ("1 x ;2 .", 0), ("1 x; 2 .", 0), ("1 xx ; 2 .x ; 3 x. ; y", 3), ("1 x ; 1 x ; y", 2)):
                self.fails(desk, InvalidText, "at", at, "book " + text)

    def test_semicolons(self):
        for desk in (Desk(), self.said(BOOK, "write 1")):
            for text, at in ((";", 0), ("; 1 x", 0), ("1 x ;", 0), ("; ;", 0), ("; ; ;", 0), ("1 x ; ; 2 .", 1),
                             ("1 x ; ; ; 2 .", 1), ("1 x ;; 2 .", 0), ("1 x ; 2 . ;", 1), ("1 x ; 2 . ; ; 3 .", 2)):
                self.fails(desk, InvalidText, "at", at, "book " + text)

    def test_books_that_are_none(self):
        for desk in (Desk(), self.said(BOOK, "write 1")):
            for text, at in (("1 x ; 1 .", 1), ("1 x ; 2 x", 1), ("1 x ; 2 ..", 1), ("5 x. ; 1 .x ; 5 xx", 2),
                             ("9 x. ; 8 .x ; 7 xx ; 1 .x", 3), ("9 x ; 9 x ; 1 xx", 1)):
                self.fails(desk, InvalidBook, "at", at, "book " + text)


class Deeds(Case):
    def test_write(self):
        desk = self.said(BOOK)
        for value, stick in ((5, "xx."), (1, "x.."), (5, "xx."), (2, ".x.")):
            self.says(desk, f"write {value}", stick)
        self.says(desk, "sums", "5 1 5 2")
        self.assertEqual(len(desk), 5)

    def test_write_other_numbers(self):
        desk = self.said(BOOK, "write 5")
        for value in (0, 3, 4, 10, 15, 9999999):
            self.fails(desk, NoSum, "value", value, f"write {value}")

    def test_notch(self):
        desk = self.said(BOOK, "write 1", "write 2")
        self.says(desk, "notch 1 2", ".xx")
        self.says(desk, "notch 0 2", "x.x")
        self.says(desk, "notch 1 0", "xxx")
        self.says(desk, "sums", "? ?")
        self.says(desk, "totals", "2 6")

    def test_notch_other_numbers(self):
        desk = self.said(BOOK, "write 1", "write 2")
        for at in (2, 3, 10, 9999999):
            for place in (0, 1, 3, 9999999):
                self.fails(desk, Refused, "at", at, f"notch {at} {place}")
        for at, place in ((0, 0), (1, 1), (0, 3), (1, 3), (0, 10), (1, 9999999)):
            self.fails(desk, NoPlace, "at", place, f"notch {at} {place}")

    def test_ten_sticks(self):
        desk = self.said(BOOK, *["write 1"] * 11)
        self.says(desk, "notch 10 1", "xx.")
        self.says(desk, "sums", "1 1 1 1 1 1 1 1 1 1 5")
        self.says(desk, "totals", "11 15")


class Asking(Case):
    def test_sums(self):
        desk = self.said("book 0 x.. ; 10 .x. ; 200 xx.", "write 200")
        self.says(desk, "sums", "200")
        for command in ("write 0", "write 10", "notch 1 2"):
            desk.say(command)
        self.says(desk, "sums", "200 ? 10")
        desk.say("notch 1 1")
        self.says(desk, "sums", "200 ? 10")

    def test_totals(self):
        desk = self.said("book 0 x.. ; 10 .x. ; 200 xx.", "write 200")
        self.says(desk, "totals", "0 200")
        desk.say("write 10")
        self.says(desk, "totals", "10 210")

    def test_frauds(self):
        self.says(self.said(BOOK), "frauds", "1>5 2>5")
        self.says(self.said("book 1 x.. ; 2 .x. ; 5 xx. ; 9 xxx"), "frauds", "1>5 1>9 2>5 2>9 5>9")
        self.says(self.said("book 10 x. ; 9 xx ; 100 .."), "frauds", "10>9 100>9 100>10")
        self.says(self.said("book 1 x. ; 2 .x"), "frauds", "none")
        self.says(self.said("book 1 x. ; 2 .x", "write 1", "notch 0 1"), "frauds", "none")

    def test_safe(self):
        self.says(self.said(BOOK), "safe", "2")
        self.says(self.said("book 1 x.. ; 2 xx. ; 3 xxx"), "safe", "1")
        self.says(self.said("book 1 x. ; 2 .x ; 3 xx ; 4 .."), "safe", "2")
        sticks = enumerate(all_sticks(4))
        self.says(self.said("book " + " ; ".join(f"{value} {stick}" for value, stick in sticks)), "safe", "6")

    def test_asking_changes_nothing(self):
        desk = self.said(BOOK, "write 1", "notch 0 2")
        before = self.state(desk)
        self.assertEqual(self.state(desk), before)
        self.assertEqual(before, ["?", "1 1", "1>5 2>5", "2", 3])


class Undo(Case):
    def test_at_the_start(self):
        desk = Desk()
        for _ in range(3):
            self.says(desk, "undo", "nothing")
            self.assertEqual(len(desk), 0)

    def test_until_nothing_is_left(self):
        desk = self.said(BOOK, "write 1", "notch 0 1")
        for state in (["1", "1 1", "1>5 2>5", "2", 2], ["none", "0 0", "1>5 2>5", "2", 1], ["none", "0 0", "none", "0", 0]):
            self.says(desk, "undo", "undone")
            self.assertEqual(self.state(desk), state)
        self.says(desk, "undo", "nothing")
        self.assertEqual(self.state(desk), ["none", "0 0", "none", "0", 0])
        self.fails(desk, NoSum, "value", 1, "write 1")

    def test_another_book_behind_deeds(self):
        desk = self.said(BOOK, "write 1", "notch 0 1", "write 2", "book 3 x.. ; 4 .x.", "write 4")
        self.says(desk, "undo", "undone")
        self.assertEqual(self.state(desk), ["none", "0 0", "none", "2", 5])
        self.says(desk, "undo", "undone")
        self.assertEqual(self.state(desk), ["5 2", "3 7", "1>5 2>5", "2", 4])
        self.says(desk, "write 5", "xx.")
        self.says(desk, "undo", "undone")
        self.says(desk, "undo", "undone")
        self.says(desk, "sums", "5")
        self.says(desk, "undo", "undone")
        self.says(desk, "sums", "1")

    def test_books_without_deeds(self):
        desk = self.said("book 1 x", "book 2 x ; 3 .", "book 4 x.")
        for command, sums in (("write 4", "4"), ("write 2", "2"), ("write 1", "1")):
            desk.say(command)
            self.says(desk, "sums", sums)
            desk.say("undo")
            desk.say("undo")
        self.assertEqual(len(desk), 0)
        self.says(desk, "undo", "nothing")

    def test_errors_are_not_taken_back(self):
        desk = self.said(BOOK, "write 1")
        for command in ("write 3", "notch 0 0", "notch 1 0", "book x", "book 1 x ; 1 .", "nothing", None):
            self.assertRaises(ValueError, desk.say, command)
        self.says(desk, "undo", "undone")
        self.assertEqual(self.state(desk), ["none", "0 0", "1>5 2>5", "2", 1])


class Invalid(Case):
    def desks(self):
        return [Desk(), self.said(BOOK, "write 1", "notch 0 1")]

    def test_no_string(self):
        for desk in self.desks():
            for value in any_values():
                self.is_invalid(desk, value)
            for value in (["sums"], ("write", "1"), ("write", 1), ["write 1"], b"sums", 1, {"sums": 1}):
                self.is_invalid(desk, value)

    def test_other_words(self):
        for desk in self.desks():
            for command in ("", "x", "Sums", "SUMS", "sum", "total", "fraud", "saf", "safer", "notches", "writes", "books",
                            "redo", "none", "nothing", "several 1 2", "several", "?", ";", "1", "1 x..", "sums;", "len",
                            "Book 1 x", "Write 1", "open_book 1 x", "take_back", "say sums", "write1", "write=1", "__len__"):
                self.is_invalid(desk, command)

    def test_words_less_and_words_more(self):
        for desk in self.desks():
            for command in ("write", "write 1 2", "write 1 1", "write 1 x", "notch", "notch 0", "notch 0 2 0", "notch 0 2 x",
                            "sums 1", "sums sums", "totals 1", "totals x", "frauds 1", "frauds add", "safe 1", "safe x",
                            "undo 1", "undo undo", "undo all", "sums ;", "write 1 ;", "write 1 ; write 2"):
                self.is_invalid(desk, command)

    def test_spaces(self):
        for desk in self.desks():
            for command in (" ", "  ", " sums", "sums ", "  sums", " sums ", "write  1", "write 1 ", " write 1", "notch 0  2",
                            "notch  0 2", "notch 0 2 ", "undo ", " undo", "book  1 x", "book 1  x", "book 1 x ",
                            " book 1 x", "book 1 x  ; 2 .", "book 1 x ;  2 .", "book x ", "book 1 x ; "):
                self.is_invalid(desk, command)

    def test_newlines(self):
        for desk in self.desks():
            for command in ("\n", "sums\n", "\nsums", "sums\nsums", "write 1\n", "write\n1", "write \n1", "undo\n", "undo \n",
                            "book 1 x\n2 .", "book 1 x\n", "book\n1 x", "book \n", "book 1 x ; 2 .\n", "notch 0\n2"):
                self.is_invalid(desk, command)

    def test_words_that_are_no_numbers(self):
        for desk in self.desks():
            for word in ("01", "00", "000", "007", "0001", "12345678", "00000001", "99999999", "-1", "+1", "-0", "1.0", "1.",
                         "1_0", "1e1", "0x1", "x", "x..", "one", "?", "1,", "1;", ";", "None", "True", "1" * 30,
                         "\u0661", "\u00b2", "\uff11"):
                self.is_invalid(desk, "write " + word)
                self.is_invalid(desk, "notch 0 " + word)
                self.is_invalid(desk, "notch " + word + " 2")
                self.is_invalid(desk, "notch " + word + " " + word)

    def test_numbers_of_seven_digits(self):
        desk = self.said("book 9999999 x. ; 1000000 .x ; 0 ..")
        self.says(desk, "write 9999999", "x.")
        self.says(desk, "write 1000000", ".x")
        self.says(desk, "write 0", "..")
        self.says(desk, "sums", "9999999 1000000 0")
        self.fails(desk, Refused, "at", 9999999, "notch 9999999 0")
        self.fails(desk, NoPlace, "at", 9999999, "notch 0 9999999")

    def test_the_form_is_told_first(self):
        for desk in self.desks():
            self.is_invalid(desk, "book 1 x ; 1  x")
            self.is_invalid(desk, "book y\n")
            self.is_invalid(desk, "write 77 7 ")
            self.is_invalid(desk, "notch 99 01")


class TwoDesks(Case):
    def test_side_by_side(self):
        one, other = Desk(), Desk()
        one.say(BOOK)
        self.assertEqual(self.state(other), ["none", "0 0", "none", "0", 0])
        other.say("book 7 x ; 8 .")
        one.say("write 1")
        other.say("write 8")
        one.say("notch 0 1")
        self.assertEqual(self.state(one), ["5", "1 5", "1>5 2>5", "2", 3])
        self.assertEqual(self.state(other), ["8", "8 8", "8>7", "1", 2])
        for _ in range(4):
            one.say("undo")
        self.assertEqual(self.state(one), ["none", "0 0", "none", "0", 0])
        self.assertEqual(self.state(other), ["8", "8 8", "8>7", "1", 2])


class Model:
    """What a desk has to say, kept as a list of all that it was."""

    def __init__(self):
        self.past = []
        self.book, self.sticks = {}, []

    def begin(self, book):
        self.past.append((self.book, self.sticks))
        self.book, self.sticks = book, []

    def write(self, value):
        self.past.append((self.book, self.sticks))
        self.sticks = [*self.sticks, self.book[value]]

    def notch(self, at, place):
        self.past.append((self.book, self.sticks))
        stick = self.sticks[at]
        self.sticks = [*self.sticks[:at], stick[:place] + "x" + stick[place + 1:], *self.sticks[at + 1:]]

    def undo(self):
        if self.past:
            self.book, self.sticks = self.past.pop()

    def asked(self):
        told = {stick: str(value) for value, stick in self.book.items()}
        origins = [[value for value, one in self.book.items() if one == stick or lies_within(one, stick)]
                   for stick in self.sticks]
        frauds = [f"{a}>{b}" for a in sorted(self.book) for b in sorted(self.book)
                  if lies_within(self.book[a], self.book[b])]
        return [" ".join(told.get(stick, "?") for stick in self.sticks) or "none",
                f"{sum(map(min, origins))} {sum(map(max, origins))}", " ".join(frauds) or "none"]


class Many(Case):
    def do(self, chance, desk, model):
        deed = chance.randrange(8)
        free = [(at, place) for at, stick in enumerate(model.sticks) for place, sign in enumerate(stick) if sign == "."]
        if deed == 0:
            length = chance.randint(1, 5)
            sticks = chance.sample(all_sticks(length), chance.randint(1, min(16, 2 ** length)))
            book = dict(zip(chance.sample(range(200), len(sticks)), sticks))
            self.says(desk, "book " + " ; ".join(f"{value} {stick}" for value, stick in book.items()), str(len(book)))
            model.begin(book)
        elif deed < 4 and model.book:
            value = chance.choice(list(model.book))
            self.says(desk, f"write {value}", model.book[value])
            model.write(value)
        elif deed < 6 and free:
            at, place = chance.choice(free)
            model.notch(at, place)
            self.says(desk, f"notch {at} {place}", model.sticks[at])
        elif deed == 6:
            self.says(desk, "undo", "undone" if model.past else "nothing")
            model.undo()

    def test_commands_in_any_order(self):
        chance = random.Random(190)
        for _ in range(60):
            desk, model = Desk(), Model()
            for _ in range(40):
                self.do(chance, desk, model)
                state = self.state(desk)
                self.assertEqual(state[:3], model.asked())
                self.assertEqual(state[4], len(model.past))


if __name__ == "__main__":
    unittest.main()
