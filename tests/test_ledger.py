"""[18] ledgers."""

import random
import unittest

from notchsafe.books import Book
from notchsafe.errors import NoPlace, NoSum, Refused, StickError
from notchsafe.ledger import Ledger
from tests.samples import any_values, example, made_book, nested


def can_become(one, other):
    return all(sign == "." or above == "x" for sign, above in zip(one, other))


def sums_by_rule(book, sticks):
    return tuple(next((value for value, told in book.entries if told == stick), None) for stick in sticks)


def totals_by_rule(book, sticks):
    least = greatest = 0
    for stick in sticks:
        values = [value for value, told in book.entries if can_become(told, stick)]
        least, greatest = least + min(values), greatest + max(values)
    return (least, greatest)


def no_sums(book):
    values = [value for value, _ in book.entries]
    return [value for value in [*any_values(), -1, 3, 10 ** 7, "5", [5], (5,), "xx."]
            if not (type(value) is int and value in values)]


def no_numbers():
    return [value for value in [*any_values(), "0", [0], (0,), nested(tuple, 8)] if type(value) is not int]


class Odd(Exception):
    pass


class Case(unittest.TestCase):
    def holds(self, ledger, sticks, deeds):
        """The attributes and the length, all of which follow from the sticks and the deeds."""
        self.assertEqual(ledger.sticks, tuple(sticks))
        self.assertEqual(ledger.sums, sums_by_rule(ledger.book, sticks))
        self.assertEqual(ledger.totals, totals_by_rule(ledger.book, sticks))
        self.assertEqual({type(thing) for thing in (ledger.sticks, ledger.sums, ledger.totals)}, {tuple})
        self.assertTrue(all(type(value) is int for value in ledger.totals))
        self.assertEqual(len(ledger), deeds)
        self.assertIs(type(len(ledger)), int)

    def fails(self, kind, word, value, work, *args):
        """The error keeps the very value, and nothing changes on the ledgers that the case holds."""
        with self.assertRaises(kind) as caught:
            work(*args)
        self.assertIs(type(caught.exception), kind)
        self.assertIs(getattr(caught.exception, word), value)

    def written(self, *values):
        ledger = Ledger(example())
        for value in values:
            ledger.write(value)
        return ledger

    def taken_back(self, ledger):
        """The sticks behind each `undo`, until nothing is left."""
        found = []
        while ledger.undo():
            found.append(ledger.sticks)
        return found


class New(Case):
    def test_without_sticks(self):
        for book in (example(), Book(), Book([(7, "x")])):
            ledger = Ledger(book)
            self.assertEqual(ledger.book, book)
            self.holds(ledger, [], 0)
            self.assertEqual((ledger.sticks, ledger.sums, ledger.totals), ((), (), (0, 0)))
            self.assertIs(ledger.undo(), False)
            self.holds(ledger, [], 0)
        self.assertEqual(Ledger(book=example()).book, example())

    def test_the_book_stays(self):
        book = example()
        ledger = self.written(1, 2)
        ledger.notch(0, 1)
        ledger.undo()
        self.assertEqual(ledger.book, book)
        self.assertEqual(book.entries, example().entries)


class Write(Case):
    def test_good_sums(self):
        ledger = Ledger(example())
        self.assertIsNone(ledger.write(1))
        self.holds(ledger, ["x.."], 1)
        self.assertIsNone(ledger.write(value=9))
        self.holds(ledger, ["x..", "xxx"], 2)
        self.assertIsNone(ledger.write(1))
        self.holds(ledger, ["x..", "xxx", "x.."], 3)
        self.assertEqual(ledger.sums, (1, 9, 1))
        self.assertEqual(ledger.totals, (3, 11))

    def test_zero(self):
        ledger = Ledger(Book([(0, "x.")]))
        ledger.write(0)
        self.holds(ledger, ["x."], 1)
        self.assertEqual((ledger.sums, ledger.totals), ((0,), (0, 0)))

    def test_no_sum(self):
        for ledger, sticks in ((Ledger(Book()), []), (Ledger(example()), []), (self.written(5, 1), ["xx.", "x.."])):
            for value in no_sums(ledger.book):
                with self.subTest(value=value):
                    self.fails(NoSum, "value", value, ledger.write, value)
                    self.holds(ledger, sticks, len(sticks))

    def test_bools_are_no_sums(self):
        ledger = Ledger(Book([(0, "x."), (1, ".x")]))
        for value in (True, False):
            self.fails(NoSum, "value", value, ledger.write, value)
        self.holds(ledger, [], 0)


class Notch(Case):
    def test_good_places(self):
        ledger = self.written(1, 2)
        self.assertIsNone(ledger.notch(0, 1))
        self.holds(ledger, ["xx.", ".x."], 3)
        self.assertEqual((ledger.sums, ledger.totals), ((5, 2), (3, 7)))
        self.assertIsNone(ledger.notch(place=2, at=1))
        self.holds(ledger, ["xx.", ".xx"], 4)
        self.assertEqual((ledger.sums, ledger.totals), ((5, None), (3, 7)))
        ledger.notch(1, 0)
        self.holds(ledger, ["xx.", "xxx"], 5)
        self.assertEqual((ledger.sums, ledger.totals), ((5, 9), (2, 14)))

    def test_a_stick_that_is_none_of_the_book(self):
        ledger = self.written(1)
        ledger.notch(0, 2)
        self.holds(ledger, ["x.x"], 2)
        self.assertEqual((ledger.sums, ledger.totals), ((None,), (1, 1)))

    def test_only_the_one_stick_changes(self):
        ledger = self.written(1, 1, 1)
        ledger.notch(1, 2)
        self.holds(ledger, ["x..", "x.x", "x.."], 4)

    def test_no_stick(self):
        for ledger in (Ledger(example()), Ledger(Book()), self.written(1), self.written(1, 2, 5)):
            sticks, many = ledger.sticks, len(ledger)
            for at in [*no_numbers(), -1, -2, -3, many, many + 1, 10 ** 30, -10 ** 30]:
                for place in (0, 1, 2, 3, -1, None, "x", at):
                    with self.subTest(at=at, place=place):
                        self.fails(Refused, "at", at, ledger.notch, at, place)
            self.holds(ledger, sticks, many)

    def test_no_place(self):
        ledger = self.written(1, 9)
        for place in [*no_numbers(), -1, -2, -3, 3, 4, 10 ** 30, -10 ** 30]:
            for at in (0, 1):
                with self.subTest(at=at, place=place):
                    self.fails(NoPlace, "at", place, ledger.notch, at, place)
        self.holds(ledger, ["x..", "xxx"], 2)

    def test_a_notched_place(self):
        ledger = self.written(1, 9)
        self.fails(NoPlace, "at", 0, ledger.notch, 0, 0)
        for place in (0, 1, 2):
            self.fails(NoPlace, "at", place, ledger.notch, 1, place)
        self.holds(ledger, ["x..", "xxx"], 2)
        ledger.notch(0, 1)
        self.fails(NoPlace, "at", 1, ledger.notch, 0, 1)
        self.holds(ledger, ["xx.", "xxx"], 3)

    def test_bools_are_no_numbers(self):
        ledger = self.written(2, 1)
        for value in (True, False):
            self.fails(Refused, "at", value, ledger.notch, value, 2)
            self.fails(NoPlace, "at", value, ledger.notch, 0, value)
            self.fails(NoPlace, "at", value, ledger.notch, 1, value)
        self.holds(ledger, [".x.", "x.."], 2)

    def test_refused_is_told_ahead_of_no_place(self):
        ledger = self.written(9)
        for at in (-1, 1, None, "0", True):
            for place in (0, 7, -1, None, "0", False):
                self.fails(Refused, "at", at, ledger.notch, at, place)
        self.holds(ledger, ["xxx"], 1)


class Several(Case):
    def test_good_sums(self):
        for kind in (list, tuple):
            ledger = self.written(5)
            self.assertIsNone(ledger.several(kind([1, 9, 1])))
            self.holds(ledger, ["xx.", "x..", "xxx", "x.."], 2)
            self.assertIsNone(ledger.several(values=kind([2])))
            self.holds(ledger, ["xx.", "x..", "xxx", "x..", ".x."], 3)
            self.assertEqual(self.taken_back(ledger), [("xx.", "x..", "xxx", "x.."), ("xx.",), ()])

    def test_none_is_no_deed(self):
        for kind in (list, tuple):
            for ledger, sticks in ((Ledger(example()), []), (Ledger(Book()), []), (self.written(1, 5), ["x..", "xx."])):
                self.assertIsNone(ledger.several(kind()))
                self.holds(ledger, sticks, len(sticks))
        self.assertIs(Ledger(example()).undo(), False)

    def test_a_wrong_one_between_good_ones(self):
        for kind in (list, tuple):
            for value in no_sums(example()):
                ledger = self.written(5)
                with self.subTest(value=value):
                    self.fails(NoSum, "value", value, ledger.several, kind([value]))
                    self.fails(NoSum, "value", value, ledger.several, kind([1, value, 2]))
                    self.fails(NoSum, "value", value, ledger.several, kind([1, 2, 9, value]))
                    self.fails(NoSum, "value", value, ledger.several, kind([1, value, 4, "x", 2]))
                    self.holds(ledger, ["xx."], 1)

    def test_what_is_passed_is_not_changed(self):
        ledger, values, wrong = Ledger(example()), [9, 1, 1], [9, [1], 2]
        ledger.several(values)
        values.append(2)
        values[0] = 5
        self.holds(ledger, ["xxx", "x..", "x.."], 1)
        self.fails(NoSum, "value", wrong[1], ledger.several, wrong)
        self.assertEqual((values, wrong), ([5, 1, 1, 2], [9, [1], 2]))

    def test_many(self):
        ledger = Ledger(example())
        ledger.several([1, 2, 5, 9] * 50)
        self.holds(ledger, ["x..", ".x.", "xx.", "xxx"] * 50, 1)
        self.assertIs(ledger.undo(), True)
        self.holds(ledger, [], 0)


class Totals(Case):
    def test_by_all_additions(self):
        ledger = Ledger(Book([(3, "x..."), (8, ".x.."), (1, "..x."), (20, "xxx.")]))
        ledger.several([3, 20])
        self.holds(ledger, ["x...", "xxx."], 1)
        self.assertEqual(ledger.totals, (3 + 1, 3 + 20))
        for place, totals in ((1, (3, 8)), (3, (3, 8)), (2, (1, 20))):
            ledger.notch(0, place)
            self.assertEqual(ledger.totals, (totals[0] + 1, totals[1] + 20))
        self.assertEqual(ledger.sums, (None, 20))

    def test_the_greatest_may_be_ahead_in_the_book_of_notches(self):
        ledger = Ledger(Book([(100, "x."), (0, "xx")]))
        ledger.write(0)
        self.assertEqual((ledger.sums, ledger.totals), ((0,), (0, 100)))
        ledger.write(100)
        self.assertEqual((ledger.sums, ledger.totals), ((0, 100), (100, 200)))


class Undo(Case):
    def test_until_nothing_is_left_and_once_more(self):
        ledger = self.written(1, 2)
        ledger.notch(0, 1)
        ledger.several([9, 9])
        ledger.notch(1, 2)
        for sticks in (["xx.", ".x.", "xxx", "xxx"], ["xx.", ".x."], ["x..", ".x."], ["x.."], []):
            deeds = len(ledger)
            self.assertIs(ledger.undo(), True)
            self.holds(ledger, sticks, deeds - 1)
        for _ in range(3):
            self.assertIs(ledger.undo(), False)
            self.holds(ledger, [], 0)
        ledger.write(5)
        self.holds(ledger, ["xx."], 1)

    def test_new_deeds_behind_it(self):
        ledger = self.written(1, 2)
        ledger.undo()
        ledger.write(9)
        self.holds(ledger, ["x..", "xxx"], 2)
        self.assertEqual(self.taken_back(ledger), [("x..",), ()])

    def test_errors_are_no_deeds(self):
        ledger = self.written(1)
        for work in (lambda: ledger.write(3), lambda: ledger.notch(1, 0), lambda: ledger.notch(0, 0),
                     lambda: ledger.several([1, None])):
            self.assertRaises(StickError, work)
        self.holds(ledger, ["x.."], 1)
        self.assertIs(ledger.undo(), True)
        self.assertIs(ledger.undo(), False)


class Trials(Case):
    def start(self):
        ledger = self.written(1, 2)
        ledger.notch(0, 1)
        return ledger

    def as_at_the_start(self, ledger):
        self.holds(ledger, ["xx.", ".x."], 3)
        self.assertEqual((ledger.sums, ledger.totals, ledger.book), ((5, 2), (3, 7), example()))
        self.assertEqual(self.taken_back(ledger), [("x..", ".x."), ("x..",), ()])
        self.holds(ledger, [], 0)

    def works(self):
        def deeds(ledger):
            ledger.write(9)
            ledger.notch(1, 2)
            ledger.several([1, 5])

        def undo_all(ledger):
            while ledger.undo():
                pass

        def other_past(ledger):
            undo_all(ledger)
            ledger.several([9, 9, 9])
            ledger.write(2)
            ledger.notch(3, 0)

        def one_back(ledger):
            ledger.undo()

        def block_within(ledger):
            ledger.write(5)
            with ledger.trial() as held:
                undo_all(held)
                held.write(2)
            self.holds(ledger, ["xx.", ".x.", "xx."], 4)
            ledger.within(other_past)
            self.holds(ledger, ["xx.", ".x.", "xx."], 4)
            ledger.undo()
            ledger.undo()

        return [lambda ledger: None, deeds, undo_all, other_past, one_back, block_within]

    def test_the_value_is_the_ledger(self):
        ledger = self.start()
        with ledger.trial() as held:
            self.assertIs(held, ledger)
            self.holds(held, ["xx.", ".x."], 3)
        self.assertIs(ledger.within(lambda held: held), ledger)
        self.assertIs(ledger.within(work=lambda held: held), ledger)

    def test_as_it_was_behind_the_block(self):
        for work in self.works():
            ledger = self.start()
            with ledger.trial() as held:
                work(held)
            self.as_at_the_start(ledger)
            ledger = self.start()
            self.assertIsNone(ledger.within(work))
            self.as_at_the_start(ledger)

    def test_as_it_was_behind_an_error_which_goes_on(self):
        for work in self.works():
            for error in (Odd(), NoSum([1]), KeyError("x"), ValueError(), KeyboardInterrupt()):
                def fails(ledger):
                    work(ledger)
                    raise error

                ledger = self.start()
                with self.assertRaises(type(error)) as caught:
                    ledger.within(fails)
                self.assertIs(caught.exception, error)
                self.as_at_the_start(ledger)
                ledger = self.start()
                with self.assertRaises(type(error)) as caught:
                    with ledger.trial() as held:
                        fails(held)
                self.assertIs(caught.exception, error)
                self.as_at_the_start(ledger)

    def test_errors_of_the_ledger_go_on(self):
        ledger, value = self.start(), [5]
        self.fails(NoSum, "value", value, ledger.within, lambda held: held.write(value))
        self.fails(Refused, "at", 7, ledger.within, lambda held: held.write(9) or held.notch(7, 0))
        self.as_at_the_start(ledger)

    def test_the_result_of_the_work(self):
        ledger = self.start()
        for result in (None, 0, False, (), [1], "x", ("x", [2])):
            self.assertIs(ledger.within(lambda held: result), result)
        self.assertEqual(ledger.within(lambda held: (held.write(9), held.sums, held.totals, len(held))),
                         (None, (5, 2, 9), (4, 16), 4))
        self.assertEqual(ledger.within(lambda held: held.within(lambda inner: len(inner) + 1)), 4)
        self.as_at_the_start(ledger)

    def test_leaving_by_return(self):
        ledger = self.start()

        def work():
            for value in (9, 5):
                with ledger.trial() as held:
                    held.write(value)
                    return held.sums
        self.assertEqual(work(), (5, 2, 9))
        self.as_at_the_start(ledger)

    def test_what_counts_is_when_the_block_is_entered(self):
        ledger = self.written(1)
        trial = ledger.trial()
        ledger.write(2)
        ledger.notch(0, 1)
        with trial as held:
            held.undo()
            held.write(9)
        self.as_at_the_start(ledger)

    def test_each_time_a_new_one(self):
        ledger = self.start()
        first, second = ledger.trial(), ledger.trial()
        self.assertIsNot(first, second)
        with first as held:
            held.write(9)
            with second as inner:
                inner.write(9)
                inner.undo()
                inner.undo()
            self.holds(ledger, ["xx.", ".x.", "xxx"], 4)
        self.as_at_the_start(ledger)

    def test_blocks_at_the_start(self):
        ledger = Ledger(example())
        ledger.within(lambda held: held.several([1, 2]))
        self.holds(ledger, [], 0)
        self.assertIs(ledger.undo(), False)

    def test_other_ledgers_stay_as_they_are(self):
        ledger, other = self.start(), self.start()
        with ledger.trial() as held:
            held.write(9)
            other.write(1)
        self.as_at_the_start(ledger)
        self.holds(other, ["xx.", ".x.", "x.."], 4)

    def test_deeds_behind_a_block(self):
        ledger = self.start()
        ledger.within(lambda held: held.undo())
        ledger.write(9)
        self.assertEqual(self.taken_back(ledger), [("xx.", ".x."), ("x..", ".x."), ("x..",), ()])


class Many(Case):
    def test_deeds_in_any_order(self):
        chance = random.Random(180)
        for _ in range(60):
            book = made_book(chance, chance.randint(1, 8), chance.randint(1, 16))
            ledger, past, sticks = Ledger(book), [], []
            for _ in range(40):
                before, deed = list(sticks), chance.randrange(5)
                if deed < 2:
                    entries = chance.choices(book.entries, k=1 if deed == 0 else chance.randint(0, 3))
                    sticks = sticks + [stick for _, stick in entries]
                    if deed == 0:
                        ledger.write(entries[0][0])
                    else:
                        ledger.several([value for value, _ in entries])
                elif deed < 4:
                    free = [(at, place) for at, stick in enumerate(sticks) for place in range(book.length)
                            if stick[place] == "."]
                    if free:
                        at, place = chance.choice(free)
                        ledger.notch(at, place)
                        sticks[at] = sticks[at][:place] + "x" + sticks[at][place + 1:]
                else:
                    self.assertIs(ledger.undo(), len(past) > 0)
                    sticks = before = past.pop() if past else []
                if sticks != before:
                    past.append(before)
                self.holds(ledger, sticks, len(past))
            self.assertEqual(self.taken_back(ledger), [tuple(before) for before in past[::-1]])


if __name__ == "__main__":
    unittest.main()
