"""[14], [15] and [16] rules of checks."""

import random
import unittest
from itertools import product

from notchsafe import errors
from notchsafe.books import Book
from notchsafe.checkrules import CheckRule
from notchsafe.errors import InvalidRule, InvalidStick
from notchsafe.numbers import stick_at
from notchsafe.ways import Way
from tests.samples import all_sticks, any_values, example, is_stick, lies_within

DOCUMENT = ("..", ".x", "x.", "xx")
BOUNDS = (1, 2, 3, 4, 5, 6, 7, 8, 9, 10 ** 30, None)


def put_by_rule(checks, stick):
    return stick + checks[stick.count(".") % len(checks)]


def fewest_additions(checks, length):
    """The fewest additions by which a stick of a length with its check becomes another one, by trying all pairs."""
    sticks = [put_by_rule(checks, stick) for stick in all_sticks(length)]
    return min([other.count("x") - one.count("x") for one in sticks for other in sticks if lies_within(one, other)],
               default=None)


def fewest_additions_of_long(checks, length):
    """The same for lengths with too many sticks: notches stand behind all plain places, and are added there."""
    sticks = [put_by_rule(checks, "." * plain + "x" * (length - plain)) for plain in range(length, -1, -1)]
    return min([other.count("x") - one.count("x")
                for at, one in enumerate(sticks) for other in sticks[at + 1:] if lies_within(one, other)],
               default=None)


def unsafe(fewest, most):
    return fewest is not None and (most is None or fewest <= most)


def small_rules():
    """All rules of one to four checks of one place, and of one to three of two places."""
    for places, most in ((1, 4), (2, 3)):
        for many in range(1, most + 1):
            yield from product(all_sticks(places), repeat=many)


def chosen_rules(seed, many):
    """Some rules of up to six checks of up to four places."""
    chance = random.Random(seed)
    for _ in range(many):
        sticks = all_sticks(chance.randint(1, 4))
        yield tuple(chance.choice(sticks) for _ in range(chance.randint(1, 6)))


class Making(unittest.TestCase):
    def fails(self, at, checks):
        with self.assertRaises(InvalidRule) as caught:
            CheckRule(checks)
        self.assertIs(type(caught.exception), InvalidRule)
        self.assertEqual(caught.exception.at, at)
        self.assertIs(type(caught.exception.at), int)

    def test_document(self):
        rule = CheckRule(["..", ".x", "x.", "xx"])
        self.assertEqual((rule.put("x.."), rule.always_safe(2), rule.first_unsafe(3), rule.first_unsafe(None),
                          rule.fraud(3, None)), ("x..x.", True, 4, 4, None))

    def test_list_and_tuple(self):
        for checks in ((".",), ("x",), ("xxxx",), DOCUMENT, ("x", "x"), (".x", "..", ".x", ".x"), ("....",) * 6):
            for value in (checks, list(checks)):
                rule = CheckRule(value)
                self.assertEqual(rule.checks, checks)
                self.assertIs(type(rule.checks), tuple)
            self.assertEqual(CheckRule(checks=list(checks)).checks, checks)

    def test_the_order_is_kept(self):
        self.assertEqual(CheckRule(["xx", "..", "x.", "xx"]).checks, ("xx", "..", "x.", "xx"))

    def test_a_list_changed_later_changes_no_rule(self):
        checks = ["..", "x."]
        rule = CheckRule(checks)
        before = (str(rule), rule.put("."), rule.first_unsafe(None), rule.first_unsafe(1), rule.fraud(5, None))
        checks.reverse()
        checks.append("xx")
        checks[0] = "xxxx"
        self.assertEqual(rule.checks, ("..", "x."))
        self.assertEqual((str(rule), rule.put("."), rule.first_unsafe(None), rule.first_unsafe(1), rule.fraud(5, None)),
                         before)

    def test_what_is_passed_is_not_changed(self):
        for checks in (["xx", "..", "x."], ["xx", "..", "x"], ["x", None, [1]]):
            copy = list(checks)
            try:
                rule = CheckRule(checks)
                rule.put("..")
                rule.fraud(4, 2)
            except InvalidRule:
                pass
            self.assertEqual(checks, copy)

    def test_no_sequence(self):
        for value in any_values():
            if not isinstance(value, (list, tuple)):
                with self.subTest(value=value):
                    self.fails(0, value)
        for value in ("x", "..", {}, {"x": 0}, {"x"}, range(2), b"x"):
            self.fails(0, value)

    def test_empty_sequence(self):
        self.fails(0, [])
        self.fails(0, ())

    def test_things_that_are_no_stick(self):
        for value in [*any_values(), "..o", "x ", " ", "X.", "x,", "xx\n", "x.. x..", ["xx"], ("xx",), b"xx"]:
            if not is_stick(value):
                with self.subTest(value=value):
                    for kind in (list, tuple):
                        self.fails(0, kind([value]))
                        self.fails(0, kind([value, "xx"]))
                        self.fails(1, kind(["xx", value]))
                        self.fails(2, kind(["xx", "..", value, "xx"]))
                        self.fails(1, kind(["xx", value, value, "x"]))

    def test_other_lengths(self):
        self.fails(1, ["x", "xx"])
        self.fails(1, ["xx", "x"])
        self.fails(2, ["xx", "..", "x"])
        self.fails(3, ("xx", "..", "x.", "...", "x", None))

    def test_the_first_of_several_is_told(self):
        self.fails(1, ["xx", "x", None])
        self.fails(1, ["xx", None, "x"])
        self.fails(0, [None, "xx", "x"])
        self.fails(0, ["", "xx", "x"])
        self.fails(2, ["x", ".", "xx", "xx", "xx"])
        self.fails(1, ["x", "xx", "xx", "xx"])
        self.fails(2, ["x", ".", True, ".."])


class Put(unittest.TestCase):
    def test_some(self):
        rule = CheckRule(DOCUMENT)
        self.assertEqual([rule.put(stick) for stick in ("x", ".", "x.", "..", "...", "....", ".....", "xx", "xx.x..")],
                         ["x..", "..x", "x..x", "..x.", "...xx", "......", "......x", "xx..", "xx.x..xx"])
        self.assertEqual(rule.put(stick="x.."), "x..x.")

    def test_more_plain_places_than_checks(self):
        rule = CheckRule(["xx", "x.", ".."])
        for plain in range(20):
            for stick in ("." * plain + "x", "x" + "." * plain):
                self.assertEqual(rule.put(stick), stick + ("xx", "x.", "..")[plain % 3])

    def test_long(self):
        stick = stick_at(300, 150, 10 ** 80)
        self.assertEqual(CheckRule(("x", ".", "x", ".")).put(stick), stick + "x")
        self.assertEqual(CheckRule(("x", ".", ".", "x")).put("." * 303), "." * 303 + "x")

    def test_all_small(self):
        for checks in chosen_rules(14, 40):
            for length in range(1, 7):
                for stick in all_sticks(length):
                    self.assertEqual(CheckRule(checks).put(stick), put_by_rule(checks, stick))

    def test_no_stick(self):
        for value in [*any_values(), "..o", "x ", " ", "X.", "x,", "x\n", ["x"], ("x", "."), b"x", 0, CheckRule(["x"])]:
            for rule in (CheckRule(["x"]), CheckRule(DOCUMENT)):
                if is_stick(value):
                    self.assertEqual(rule.put(value), put_by_rule(rule.checks, value))
                else:
                    with self.subTest(value=value), self.assertRaises(InvalidStick) as caught:
                        rule.put(value)
                    self.assertIs(type(caught.exception), InvalidStick)


class Text(unittest.TestCase):
    def test_text(self):
        for checks, text in (((".",), "."), (DOCUMENT, ".. .x x. xx"), (("xxx", "xxx"), "xxx xxx"), (["x", "."], "x .")):
            self.assertEqual(str(CheckRule(checks)), text)

    def test_equality(self):
        rules = [("x",), (".",), ("x", "x"), ("x", "."), (".", "x"), ("xx",), DOCUMENT, DOCUMENT[::-1], DOCUMENT * 2]
        for at, one in enumerate(rules):
            for number, other in enumerate(rules):
                self.assertIs(CheckRule(one) == CheckRule(list(other)), at == number)
                self.assertIs(CheckRule(list(one)) != CheckRule(other), at != number)

    def test_other_objects(self):
        for rule in (CheckRule(["x"]), CheckRule(DOCUMENT)):
            for value in [*any_values(), str(rule), rule.checks, list(rule.checks), Book([(1, "x")]), Way(), example(),
                          errors.InvalidRule(0)]:
                with self.subTest(value=value):
                    same = type(value) is CheckRule and value.checks == rule.checks
                    self.assertIs(rule == value, same)
                    self.assertIs(value == rule, same)
                    self.assertIs(rule != value, not same)


class Safety(unittest.TestCase):
    def check_fraud(self, rule, length, most, is_unsafe):
        pair = rule.fraud(length, most)
        if not is_unsafe:
            self.assertIsNone(pair)
            return
        self.assertIs(type(pair), tuple)
        one, other = pair
        self.assertNotEqual(one, other)
        for stick in pair:
            self.assertEqual(stick, put_by_rule(rule.checks, stick[:length]))
            self.assertEqual(len(stick), length + len(rule.checks[0]))
            self.assertTrue(is_stick(stick))
        self.assertTrue(lies_within(one, other))
        self.assertTrue(most is None or other.count("x") - one.count("x") <= most)

    def check(self, checks, length, fewest):
        rule = CheckRule(checks)
        for most in BOUNDS:
            with self.subTest(checks=checks, length=length, most=most):
                self.assertIs(rule.is_safe(length, most), not unsafe(fewest, most))
                self.check_fraud(rule, length, most, unsafe(fewest, most))

    def test_small_rules_by_trying_all_pairs(self):
        for checks in small_rules():
            for length in range(1, 6):
                self.check(checks, length, fewest_additions(checks, length))

    def test_greater_rules_by_trying_all_pairs(self):
        for checks in chosen_rules(15, 60):
            for length in range(1, 6):
                self.check(checks, length, fewest_additions(checks, length))
        for checks in chosen_rules(150, 4):
            self.check(checks, 7, fewest_additions(checks, 7))

    def test_the_slow_rules_agree(self):
        for checks in [*small_rules(), *chosen_rules(151, 60)]:
            for length in range(1, 5):
                self.assertEqual(fewest_additions(checks, length), fewest_additions_of_long(checks, length))

    def test_longer_sticks(self):
        for checks in chosen_rules(16, 80):
            for length in (6, 7, 8, 9, 10, 11, 12, 13, 14):
                self.check(checks, length, fewest_additions_of_long(checks, length))

    def test_lengths_of_three_hundred(self):
        for checks in [DOCUMENT, ("x",), ("....",) * 6, *chosen_rules(300, 2)]:
            for length in (300, 305):
                self.check(checks, length, fewest_additions_of_long(checks, length))

    def test_additions_at_the_checks_count(self):
        # From "." to "x" one notch is added at the stick, and two at the checks.
        rule = CheckRule(["xx", ".."])
        self.assertIs(rule.is_safe(1, 2), True)
        self.assertIs(rule.is_safe(1, 3), False)
        self.assertIs(rule.is_safe(1, None), False)
        self.assertEqual(rule.fraud(1, 3), ("...", "xxx"))
        self.assertIsNone(rule.fraud(1, 2))
        self.assertIs(rule.is_safe(2, 2), False)

    def test_one_check_is_never_safe(self):
        for checks in ((".",), ("x",), ("x..x",)):
            for most in BOUNDS:
                self.assertIs(CheckRule(checks).is_safe(1, most), False)
                self.assertIs(CheckRule(checks).always_safe(most), False)
                self.assertEqual(CheckRule(checks).first_unsafe(most), 1)

    def test_by_name(self):
        rule = CheckRule(DOCUMENT)
        self.assertIs(rule.is_safe(most=None, length=3), True)
        self.assertIs(rule.is_safe(most=None, length=4), False)
        self.assertIs(rule.always_safe(most=2), True)
        self.assertIs(rule.always_safe(most=4), False)
        self.assertEqual(rule.first_unsafe(most=4), 4)
        self.assertIsNone(rule.first_unsafe(most=2))
        self.assertIsNone(rule.fraud(most=4, length=3))
        self.assertEqual(len(rule.fraud(most=4, length=4)), 2)


class AllLengths(unittest.TestCase):
    def found(self, checks):
        """What is told of all lengths, compared with what is found length by length; the first unsafe lengths."""
        lengths = range(1, 3 * len(checks) + 4)
        fewest = {length: fewest_additions_of_long(checks, length) for length in lengths}
        rule, firsts = CheckRule(checks), []
        for most in BOUNDS:
            first = next((length for length in lengths if unsafe(fewest[length], most)), None)
            with self.subTest(checks=checks, most=most):
                self.assertEqual(rule.first_unsafe(most), first)
                self.assertIs(rule.always_safe(most), first is None)
                for length in lengths:
                    self.assertIs(rule.is_safe(length, most), first is None or length < first)
                if first is None:
                    self.assertIs(rule.is_safe(300, most), True)
                    self.assertIsNone(rule.fraud(300, most))
                else:
                    self.assertIsNotNone(rule.fraud(first, most))
                    self.assertTrue(first == 1 or rule.fraud(first - 1, most) is None)
            firsts.append(first)
        return firsts

    def test_small_rules(self):
        for checks in small_rules():
            self.found(checks)

    def test_greater_rules(self):
        for checks in chosen_rules(17, 250):
            self.found(checks)

    def test_around_the_number_of_checks(self):
        for checks, most, first in (
            (("..", ".x", "x.", "xx"), 2, None), (("..", ".x", "x.", "xx"), 3, 4), (("..", ".x", "x.", "xx"), 4, 4),
            (("..", ".x", "x.", "xx"), None, 4), (("..", ".x", "x.", ".."), 1, 4), (("..", ".x", "..", ".."), 1, 3),
            (("..", ".x", "..", ".."), 2, 2), (("..", "..", ".x", "xx"), 1, 1), (("..", ".x", ".."), 1, 3),
            (("..", ".x"), 1, None), (("..", ".x"), 2, 2), (("..", "..", ".."), 1, 1),
        ):
            with self.subTest(checks=checks, most=most):
                self.assertEqual(CheckRule(checks).first_unsafe(most), first)
                self.found(checks)

    def test_above_the_number_of_checks(self):
        # Of each rule only one check can become another one, or is the same as it; and it has a later number.
        for checks, told in (
            (("x...", ".x..", "..x.", "...x", ".x.."), {1: None, 2: 6, 3: 4, 4: 4, 5: 4, None: 4}),
            (("x..x", "xx..", "..xx", "xxx."), {1: None, 2: None, 3: 5, 4: 4, 5: 4, None: 4}),
            (("x..x", ".x.x", "xx..", "..xx", "xxx."), {2: None, 3: None, 4: 7, 5: 5, 6: 5, None: 5}),
        ):
            for most, first in told.items():
                with self.subTest(checks=checks, most=most):
                    self.assertEqual(CheckRule(checks).first_unsafe(most), first)
            self.found(checks)

    def test_below_twice_the_number_of_checks(self):
        checks = ("x..x..", ".x.x..", "..xx..", "xx....", "...x.x", "xx..x.")
        self.assertEqual([CheckRule(checks).first_unsafe(most) for most in (4, 5, 6, None)], [None, 9, 6, 6])
        self.found(checks)
        pair = CheckRule(checks).fraud(9, 5)
        self.assertEqual([stick.count(".") for stick in pair], [9 + 4, 5 + 3])

    def test_without_a_bound_no_rule_is_always_safe(self):
        for checks in [*small_rules(), *chosen_rules(18, 50)]:
            self.assertIs(CheckRule(checks).always_safe(None), False)
            self.assertIs(CheckRule(checks).always_safe(len(checks)), False)
            self.assertLessEqual(CheckRule(checks).first_unsafe(None), len(checks))

    def test_kinds_of_results(self):
        rule = CheckRule(DOCUMENT)
        for most in BOUNDS:
            self.assertIs(type(rule.always_safe(most)), bool)
            self.assertIs(type(rule.is_safe(5, most)), bool)
            self.assertIn(type(rule.first_unsafe(most)), (int, type(None)))


if __name__ == "__main__":
    unittest.main()
