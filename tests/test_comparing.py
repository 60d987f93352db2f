"""[17] books that are alike, and places that are needless."""

import random
import unittest
from itertools import combinations, permutations, product

from notchsafe.books import Book
from notchsafe.comparing import alike, needless, turning
from notchsafe.middles import middle
from notchsafe.numbers import how_many, stick_at
from tests.samples import all_sticks, book_of, example, lies_within, made_book


def sticks_of(book):
    return {stick for _, stick in book.entries}


def turned_stick(stick, places):
    """The stick with the sign of its place k at the place places[k]."""
    signs = [""] * len(stick)
    for at, sign in enumerate(stick):
        signs[places[at]] = sign
    return "".join(signs)


def turned(book, places, sums=None):
    """The book with its places exchanged, perhaps with other sums in their order."""
    values = [value for value, _ in book.entries] if sums is None else sums
    return Book([(value, turned_stick(stick, places)) for value, (_, stick) in zip(values, book.entries)])


def shuffled(chance, book):
    """The book with its places exchanged, and other sums in another order."""
    places = chance.sample(range(book.length), book.length)
    return turned(book, places, chance.sample(range(10 ** 6), len(book)))


def leads(p, q, places):
    return {turned_stick(stick, places) for stick in sticks_of(p)} == sticks_of(q)


def alike_by_trying(p, q):
    return p.length == q.length and any(leads(p, q, places) for places in permutations(range(p.length)))


def counts(book):
    return sorted(stick.count("x") for stick in sticks_of(book))


def graph(places, pairs):
    """A book of sticks with two notches each."""
    return book_of(*["".join("x" if at in pair else "." for at in range(places)) for pair in pairs])


def span(*sticks):
    """All sticks that are found by turning the signs of none at the notches of some of these."""
    found = []
    for chosen in product((False, True), repeat=len(sticks)):
        rows = [stick for stick, is_in in zip(sticks, chosen) if is_in]
        found.append("".join(".x"[sum(row[at] == "x" for row in rows) % 2] for at in range(len(sticks[0]))))
    return book_of(*found)


RING = [(at, (at + 1) % 8) for at in range(8)]
RINGS = [(at, (at + 1) % 4) for at in range(4)] + [(4 + at, 4 + (at + 1) % 4) for at in range(4)]
CUBE = [(at, at ^ bit) for at in range(8) for bit in (1, 2, 4) if at < at ^ bit]
LADDER = RING + [(at, at + 4) for at in range(4)]


class Case(unittest.TestCase):
    def are_alike(self, p, q):
        for one, other in ((p, q), (q, p)):
            with self.subTest(p=str(one), q=str(other)):
                self.assertIs(alike(one, other), True)
                places = turning(one, other)
                self.assertIs(type(places), tuple)
                self.assertEqual(sorted(places), list(range(one.length)))
                self.assertTrue(all(type(place) is int for place in places))
                self.assertTrue(leads(one, other, places))

    def are_unlike(self, p, q):
        for one, other in ((p, q), (q, p)):
            with self.subTest(p=str(one), q=str(other)):
                self.assertIs(alike(one, other), False)
                self.assertIsNone(turning(one, other))


class Alike(Case):
    def test_places_exchanged_and_other_sums(self):
        for places in permutations(range(3)):
            self.are_alike(example(), turned(example(), places))
            self.are_alike(example(), turned(example(), places, [7, 3, 0, 1000000]))

    def test_the_place_of_the_first_is_the_one_of_the_second(self):
        # There is one exchange only, and it is none that leads back, too.
        p, q = Book([(1, "x.."), (2, "xx.")]), Book([(1, ".x."), (2, ".xx")])
        self.assertEqual(turning(p, q), (1, 2, 0))
        self.assertEqual(turning(q, p), (2, 0, 1))
        self.assertEqual(turning(q=q, p=p), (1, 2, 0))
        self.assertIs(alike(q=q, p=p), True)

    def test_a_book_is_like_itself(self):
        for book in (example(), Book([(3, "x")]), Book([(3, ".")]), book_of("....", "xxxx"), book_of(*all_sticks(4))):
            self.are_alike(book, book)

    def test_the_order_of_the_sums_does_not_count(self):
        self.are_alike(Book([(1, "x."), (2, "xx")]), Book([(9, "x."), (2, "xx")]))
        self.are_alike(Book([(1, "x.."), (2, "xx."), (3, "xxx")]), Book([(3, "..x"), (2, ".xx"), (1, "xxx")]))

    def test_empty_books(self):
        self.are_alike(Book(), Book())
        self.are_alike(Book(), Book([(1, "xx.")]).without(1))
        self.assertEqual(turning(Book(), Book()), ())

    def test_lengths(self):
        self.are_unlike(Book(), Book([(1, "x")]))
        self.are_unlike(Book(), example())
        self.are_unlike(Book([(1, "x")]), Book([(1, "x.")]))
        self.are_unlike(Book([(1, "..")]), Book([(1, "...")]))
        self.are_unlike(example(), book_of("x...", ".x..", "xx..", "xxx."))

    def test_numbers_of_sticks(self):
        self.are_unlike(example(), example().without(9))
        self.are_unlike(book_of("x.", ".x"), book_of("x."))
        self.are_unlike(book_of("x..", "...", "xxx"), book_of("..x", "xxx"))

    def test_numbers_of_notches(self):
        self.are_unlike(Book([(1, "x")]), Book([(1, ".")]))
        self.are_unlike(book_of("x..", ".x."), book_of("x..", "xx."))
        self.are_unlike(book_of("...", "xx."), book_of("x..", "..x"))

    def test_as_many_notches_but_not_alike(self):
        for p, q in (
            (("x..", "xx."), ("x..", ".xx")), (("xx..", "..xx"), ("xx..", "x..x")),
            (("x...", ".x..", "xx.."), ("x...", ".x..", "..xx")), (("x..", ".x.", ".xx"), ("x..", ".x.", "xx.")),
        ):
            self.assertEqual(counts(book_of(*p)), counts(book_of(*q)))
            self.are_unlike(book_of(*p), book_of(*q))

    def test_each_place_notched_as_often_but_not_alike(self):
        self.are_unlike(graph(8, RING), graph(8, RINGS))
        self.are_unlike(graph(8, CUBE), graph(8, LADDER))
        self.are_unlike(graph(6, [(0, 1), (1, 2), (2, 0), (3, 4), (4, 5), (5, 3)]),
                        graph(6, [(0, 1), (1, 2), (2, 3), (3, 4), (4, 5), (5, 0)]))

    def test_places_that_only_a_search_tells_apart(self):
        # At each place two sticks are notched, but the rings of three places cannot become those of four or five.
        for first, second in ((3, 4), (3, 5), (4, 4)):
            rings = [[(at, (at + 1) % many) for at in range(many)] for many in (first, second)]
            one = graph(first + second, [*rings[0], *[(a + first, b + first) for a, b in rings[1]]])
            other = graph(first + second, [*rings[1], *[(a + second, b + second) for a, b in rings[0]]])
            self.are_alike(one, other)
            for places in permutations(range(first + second)) if first + second == 7 else []:
                if places[0] % 3 == 0 and places[1] % 2 == 0:
                    self.are_alike(one, turned(one, places))
            self.assertEqual(alike(one, graph(8, RING)), False)
            self.assertEqual(alike(one, graph(8, RINGS)), first == 4)

    def test_eight_places_and_sixteen_entries(self):
        chance = random.Random(17)
        books = [span("x....xxx", ".x..x.xx", "..x.xx.x", "...xxxx."), span("xx......", "..xx....", "....xx..", "......xx"),
                 span("x.......", ".x......", "..x.....", "...x...."), graph(8, LADDER + [(0, 2), (2, 4), (4, 6), (6, 0)]),
                 graph(8, CUBE + [(0, 3), (3, 5), (5, 6), (6, 0)]), made_book(chance, 8, 16), made_book(chance, 8, 16)]
        for at, one in enumerate(books):
            self.assertEqual((one.length, len(one)), (8, 16))
            for number, other in enumerate(books):
                for _ in range(5):
                    if at == number:
                        self.are_alike(one, shuffled(chance, other))
                    else:
                        self.are_unlike(one, shuffled(chance, other))

    def test_greatest_books_one_notch_moved(self):
        chance = random.Random(170)
        for _ in range(30):
            book = made_book(chance, 8, 16)
            self.are_alike(book, shuffled(chance, book))
            value, stick = chance.choice(book.entries)
            at, place = chance.choice([k for k in range(8) if stick[k] == "x"] or [0]), chance.randrange(8)
            moved = "".join({at: ".", place: "x"}.get(k, sign) for k, sign in enumerate(stick))
            if moved not in sticks_of(book):
                other = shuffled(chance, Book([*book.without(value).entries, (value, moved)]))
                if alike_by_columns(book, other):
                    self.are_alike(book, other)
                else:
                    self.are_unlike(book, other)

    def test_all_small_books(self):
        for length in (1, 2, 3):
            sticks = all_sticks(length)
            books = [book_of(*lot) for many in range(1, 4) for lot in combinations(sticks, many)]
            for one in books:
                for other in books:
                    if counts(one) == counts(other):
                        if alike_by_trying(one, other):
                            self.are_alike(one, other)
                        else:
                            self.are_unlike(one, other)
                    else:
                        self.assertIs(alike(one, other), False)

    def test_many_books(self):
        chance, seen = random.Random(18), []
        for _ in range(300):
            length, many = chance.randint(2, 5), chance.randint(1, 8)
            one, other = made_book(chance, length, many), made_book(chance, length, many)
            if chance.random() < 0.3:
                other = shuffled(chance, one)
            seen.append(alike_by_trying(one, other))
            if seen[-1]:
                self.are_alike(one, other)
            else:
                self.are_unlike(one, other)
        self.assertEqual(set(seen), {True, False})

    def test_whatever_the_package_returned(self):
        chance = random.Random(19)
        long = book_of(*[stick_at(300, 150, chance.randrange(how_many(300, 150))) for _ in range(10)])
        near = book_of(*[stick_at(300, 150, number) for number in range(10)])
        for book in (long, near, book_of(*middle(8)), book_of("." * 304, "x" * 304), book_of(*all_sticks(8))):
            self.are_alike(book, shuffled(chance, book))
        self.are_unlike(long, near)

    def test_many_places_alike_need_no_deep_search(self):
        book = book_of("." * 1100, "x" * 1100)
        self.assertEqual(sorted(turning(book, book)), list(range(1100)))


def alike_by_columns(p, q):
    """Whether there is an exchange, found by putting the places of one book behind one another in all ways that fit."""
    def goes_on(chosen):
        heads = sorted(stick[:len(chosen)] for stick in sticks_of(p))
        if sorted("".join(stick[at] for at in chosen) for stick in sticks_of(q)) != heads:
            return False
        return len(chosen) == p.length or any(goes_on([*chosen, at]) for at in range(p.length) if at not in chosen)
    return p.length == q.length and goes_on([])


def needless_by_rule(book):
    told = dict(book.entries)
    places = []
    for at in range(book.length):
        short = {value: stick[:at] + stick[at + 1:] for value, stick in told.items()}
        pairs = [(a, b) for a in told for b in told if lies_within(told[a], told[b])]
        left = [(a, b) for a in short for b in short if lies_within(short[a], short[b])]
        if book.length > 1 and len(set(short.values())) == len(short) and pairs == left:
            places.append(at)
    return tuple(places)


class Needless(unittest.TestCase):
    def check(self, places, *sticks):
        self.assertEqual(needless(book_of(*sticks)), places)
        self.assertIs(type(needless(book_of(*sticks))), tuple)
        self.assertEqual(needless_by_rule(book_of(*sticks)), places)

    def test_a_place_that_all_have_alike(self):
        self.check((2,), "x..", ".x.")
        self.check((0,), "xx.", "x.x")
        self.check((0, 3), ".x.x", "..xx")
        self.check((1, 2), "x..", "...")
        self.check((1, 2), "x.x", "..x")

    def test_a_place_that_goes_with_another_one(self):
        self.check((0, 1), "xx.", "..x")
        self.check((0, 1, 2), "xxx", "...")
        self.check((0, 3), "xx.x", ".x..", "..x.")

    def test_together_they_may_be_needed(self):
        # Without any one of these places the other ones do, though without two of them the sticks fall together.
        self.check((0, 1), "xx", "..")

    def test_sticks_that_fall_together(self):
        self.check((), "x.", "..", ".x")
        self.check((0, 1), "...", "xx.", "xxx")
        self.check((), "x", ".")

    def test_a_pair_that_lies_within_only_then(self):
        # Without the place at which a stick alone has a notch it would lie within the other one.
        self.check((), ".x", "x.")
        self.check((0,), "x.x", "xx.")
        self.check((0, 1, 3), "x.x.", "xx.x")

    def test_one_place(self):
        self.check((), "x")
        self.check((), ".")
        self.check((), ".", "x")

    def test_one_stick(self):
        self.check((0, 1), "x.")
        self.check((0, 1, 2, 3, 4, 5, 6, 7), "xx..xx..")

    def test_empty_book(self):
        self.assertEqual(needless(Book()), ())
        self.assertEqual(needless(book=Book([(1, "x.")]).without(1)), ())

    def test_document_example_and_names(self):
        self.assertEqual(needless(book=example()), ())
        self.assertEqual(needless(Book([(9, "x..x"), (4, ".x.x")])), (2, 3))

    def test_all_sticks(self):
        for length in (1, 2, 3, 4):
            self.check((), *all_sticks(length))

    def test_many_books(self):
        chance, seen = random.Random(20), set()
        for _ in range(400):
            book = made_book(chance, chance.randint(1, 6), chance.randint(0, 6))
            with self.subTest(book=str(book)):
                self.assertEqual(needless(book), needless_by_rule(book))
            seen.add(len(needless(book)))
        self.assertLessEqual({0, 1, 2, 3}, seen)
        for _ in range(5):
            book = made_book(chance, 8, 16)
            self.assertEqual(needless(book), needless_by_rule(book))


if __name__ == "__main__":
    unittest.main()
