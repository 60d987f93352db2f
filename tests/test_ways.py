"""[5] ways."""

import unittest
from itertools import combinations

from notchsafe import errors
from notchsafe.books import Book
from notchsafe.errors import InvalidStick, InvalidWay
from notchsafe.ways import Way
from tests.samples import HOWS, all_sticks, nested, odd_values, outcomes


class Making(unittest.TestCase):
    def check(self, way, how, most, part):
        self.assertEqual((way.how, way.most, way.part), (how, most, part))
        self.assertIs(type(way.how), str)
        if part is not None:
            self.assertIs(type(way.part), tuple)

    def test_defaults(self):
        self.check(Way(), "add", None, None)

    def test_by_place_and_by_name(self):
        self.check(Way("lose", 2, [1]), "lose", 2, (1,))
        self.check(Way(how="lose", most=2, part=[1]), "lose", 2, (1,))
        self.check(Way(part=(4,), how="mixed"), "mixed", None, (4,))
        self.check(Way("mixed", part=(4,), most=0), "mixed", 0, (4,))
        self.check(Way(most=3), "add", 3, None)

    def test_words(self):
        for how in HOWS:
            self.check(Way(how), how, None, None)

    def test_most(self):
        for most in (0, 1, 2, 8, 300, 10 ** 30):
            self.check(Way("lose", most), "lose", most, None)

    def test_part_is_ascending_and_each_once(self):
        self.check(Way("add", None, [3, 0, 3, 1, 0]), "add", None, (0, 1, 3))
        self.check(Way("add", None, (10, 9, 2, 100, 9)), "add", None, (2, 9, 10, 100))
        self.check(Way("add", None, (0,)), "add", None, (0,))
        self.check(Way("add", None, list(range(40, -1, -1))), "add", None, tuple(range(41)))

    def test_part_may_be_empty(self):
        self.check(Way("add", 1, []), "add", 1, ())
        self.check(Way("add", None, ()), "add", None, ())

    def test_a_list_changed_later_changes_no_way(self):
        part = [2, 0]
        way = Way("add", None, part)
        part.append(1)
        part[0] = 5
        self.check(way, "add", None, (0, 2))
        self.assertFalse(way.can("...", ".x."))
        self.assertEqual(str(way), "add within 0 2")

    def test_the_list_passed_is_not_changed(self):
        part = [3, 0, 3]
        Way("add", 1, part).can("....", "x...")
        self.assertEqual(part, [3, 0, 3])


class Wrong(unittest.TestCase):
    def check(self, word, *args, **more):
        with self.assertRaises(InvalidWay) as caught:
            Way(*args, **more)
        self.assertEqual(caught.exception.word, word)

    def test_how(self):
        for value in [*odd_values(), 0, 1, 5, "x..", "ADD", "lose ", " mixed", "ad", "both", "addlose", "how",
                      "within", [], (), ["add"], ("add",), ("add", "lose"), "add\n", "add at most 1"]:
            with self.subTest(value=value):
                self.check("how", value)
                self.check("how", how=value)
                self.check("how", value, 1, [0])

    def test_most(self):
        for value in [*odd_values(), "2", "add", [], (), [2], (2,), -10 ** 30]:
            if value is not None:
                with self.subTest(value=value):
                    self.check("most", "add", value)
                    self.check("most", most=value)
                    self.check("most", "mixed", value, [0])

    def test_part(self):
        wrong = [value for value in odd_values() if value is not None]
        wrong += [0, 3, "01", "", [0, True], [False, 1], (1, None), [0, "1"], [[0]], ((0,),), [0, -1], (-1,), [1, 2, -3],
                  [0, [1]], (0, (1, (2,))), [Way()], (Book(),), nested(list, 2), nested(tuple, 8), {}, {0: 1}]
        for value in wrong:
            with self.subTest(value=value):
                self.check("part", "add", None, value)
                self.check("part", part=value)
                self.check("part", "lose", 0, value)

    def test_the_first_wrong_argument_is_told(self):
        self.check("how", "plus", -1, 3)
        self.check("how", "plus", -1)
        self.check("how", "plus", 1, [-1])
        self.check("how", None, True, "0")
        self.check("most", "add", -1, [-1])
        self.check("most", "add", True, 0)
        self.check("most", part=[True], most=False)
        self.check("how", part=[True], most=False, how=[])


class Can(unittest.TestCase):
    def test_document(self):
        self.assertIs(Way("add", 1).can("x..", "xx."), True)
        self.assertIs(Way("lose").can("x..", "xx."), False)
        self.assertIs(Way("mixed", 2, [0, 1]).can("x..", ".x."), True)

    def test_words(self):
        for how, up, down, aside in (("add", True, False, False), ("lose", False, True, False),
                                     ("mixed", True, True, True)):
            with self.subTest(how):
                self.assertIs(Way(how).can("x.", "xx"), up)
                self.assertIs(Way(how).can("xx", "x."), down)
                self.assertIs(Way(how).can("x.", ".x"), aside)

    def test_most_is_reached_but_not_passed(self):
        for how, one, other in (("add", "x...", "xxxx"), ("lose", "xxxx", "x..."), ("mixed", "xx..", "x.xx")):
            for most in (0, 1, 2, 3, 4, 9):
                with self.subTest(how, most=most):
                    self.assertIs(Way(how, most).can(one, other), most >= 3)

    def test_most_counts_both_ways_together(self):
        self.assertFalse(Way("mixed", 1).can("x.", ".x"))
        self.assertFalse(Way("mixed", 3).can("xx..", "..xx"))
        self.assertTrue(Way("mixed", 4).can("xx..", "..xx"))

    def test_part(self):
        self.assertTrue(Way("add", None, [1]).can("x..", "xx."))
        self.assertFalse(Way("add", None, [0, 2]).can("x..", "xx."))
        self.assertFalse(Way("add", None, [1]).can("...", "xx."))
        self.assertTrue(Way("add", None, [1, 0, 1]).can("...", "xx."))
        self.assertTrue(Way("add", None, (7, 1, 99)).can("x..", "xx."))
        self.assertFalse(Way("add", None, [3, 4]).can("x..", "xx."))
        self.assertFalse(Way("add", None, []).can("x..", "xx."))

    def test_places_count_from_the_left(self):
        self.assertTrue(Way("add", None, [0]).can("...", "x.."))
        self.assertFalse(Way("add", None, [0]).can("...", "..x"))
        self.assertTrue(Way("lose", None, [2]).can("xxx", "xx."))

    def test_most_counts_changes_not_places_of_the_part(self):
        self.assertTrue(Way("add", 1, [0, 1, 2]).can("...", ".x."))
        self.assertFalse(Way("add", 1, [0, 1, 2]).can("...", ".xx"))

    def test_itself(self):
        for stick in (".", "x", "x..", "xxx", "...", "x.x.x.x."):
            for how in HOWS:
                for most in (None, 0, 1):
                    for part in (None, [], [0], [50]):
                        self.assertIs(Way(how, most, part).can(stick, stick), True)

    def test_unlike_lengths(self):
        for how in HOWS:
            for one, other in ((".", ".."), ("..", "."), ("x", "x."), ("x.", "x"), ("x", ".x"), ("xx", "x"), ("...", "x")):
                for most in (None, 0, 5):
                    for part in (None, [], [0, 1, 2]):
                        self.assertIs(Way(how, most, part).can(one, other), False)

    def test_no_stick(self):
        for value in [*odd_values(), 0, 1, [], (), "x..y", "x.. ", ".x.\n", ["x", "."], ("x", "."), "xX", "..o", "\u2024"]:
            for way in (Way(), Way("lose", 0), Way("mixed", 3, [0]), Way("add", 0, [])):
                with self.subTest(value=value):
                    for args in ((value, "x.."), ("x..", value), (value, value), (value, "x"), ("..", value)):
                        with self.assertRaises(InvalidStick):
                            way.can(*args)

    def test_by_name(self):
        self.assertTrue(Way().can(one="x.", other="xx"))
        self.assertFalse(Way().can(other="x.", one="xx"))

    def test_all_sticks_of_a_few_places(self):
        for length in range(1, 4):
            sticks = all_sticks(length)
            places = [*range(length), length + 2]
            parts = [None, *[part for many in range(len(places) + 1) for part in combinations(places, many)]]
            for how in HOWS:
                for most in (None, 0, 1, 2, 3, 4):
                    for part in parts:
                        way = Way(how, most, part)
                        for one in sticks:
                            found = outcomes(one, how, most, part)
                            self.assertEqual([other for other in sticks if way.can(one, other)], sorted(found))

    def test_longest_sticks(self):
        for how in HOWS:
            for most, part in ((None, None), (3, None), (None, (0, 2, 3, 7)), (2, (0, 2, 3, 7))):
                way = Way(how, most, part)
                for one in ("........", "xxxxxxxx", "x.x..xx."):
                    found = outcomes(one, how, most, part)
                    self.assertEqual([other for other in all_sticks(8) if way.can(one, other)], sorted(found))


class Text(unittest.TestCase):
    def test_text(self):
        for way, text in (
            (Way(), "add"), (Way("lose"), "lose"), (Way("mixed"), "mixed"),
            (Way("add", 0), "add at most 0"), (Way("mixed", 12), "mixed at most 12"),
            (Way("lose", None, [4]), "lose within 4"), (Way("add", 2, [3, 0]), "add at most 2 within 0 3"),
            (Way("add", None, (10, 9, 9, 1)), "add within 1 9 10"),
            (Way("add", None, []), "add within"), (Way("lose", 0, ()), "lose at most 0 within"),
        ):
            self.assertEqual(str(way), text)
            self.assertIs(type(str(way)), str)


class Equality(unittest.TestCase):
    def test_ways(self):
        ways = [Way(how, most, part) for how in HOWS for most in (None, 0, 1, 2)
                for part in (None, (), (0,), (1,), (0, 1), (1, 2), (12,))]
        for at, one in enumerate(ways):
            for number, other in enumerate(ways):
                with self.subTest(str(one), other=str(other)):
                    self.assertIs(one == other, at == number)
                    self.assertIs(one != other, at != number)

    def test_made_in_other_forms(self):
        self.assertTrue(Way() == Way("add", None, None))
        self.assertTrue(Way("add", 1, [2, 0, 2]) == Way("add", 1, (0, 2)))
        self.assertTrue(Way("add", None, []) == Way(part=()))
        self.assertFalse(Way("add", None, []) == Way())
        self.assertFalse(Way("add", 0) == Way())

    def test_other_objects(self):
        for way in (Way(), Way("add", 1, [0]), Way("add", None, ())):
            for value in (str(way), way.how, way.part, None, 0, 1, True, False, [], (), [way], (way,), Book(),
                          Book([(1, "x")]), errors.InvalidWay("how"), errors.InvalidStick(), ("add", None, None)):
                with self.subTest(value=value):
                    self.assertIs(way == value, False)
                    self.assertIs(value == way, False)
                    self.assertIs(way != value, True)


if __name__ == "__main__":
    unittest.main()
