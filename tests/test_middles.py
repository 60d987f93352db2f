"""[10] all sticks of a length."""

import random
import unittest
from itertools import combinations

from notchsafe.frauds import is_safe
from notchsafe.middles import all_chains, chains_hold, middle, widest
from notchsafe.ways import Way
from tests.samples import all_sticks, any_values, book_of, lies_within

WIDEST = {1: 1, 2: 2, 3: 3, 4: 6, 5: 10, 6: 20, 7: 35, 8: 70}


def holds_by_rule(length, value):
    """What `chains_hold` has to tell, word by word."""
    def is_chain(chain):
        if type(chain) is not tuple or chain == () or not all(type(stick) is str for stick in chain):
            return False
        if not all(stick in all_sticks(length) for stick in chain):
            return False
        return all(lies_within(one, other) and other.count("x") == one.count("x") + 1
                   for one, other in zip(chain, chain[1:]))

    if type(value) is not tuple or len(value) != WIDEST[length] or not all(is_chain(chain) for chain in value):
        return False
    return sorted(stick for chain in value for stick in chain) == all_sticks(length)


class Middles(unittest.TestCase):
    def test_widest(self):
        for length, many in WIDEST.items():
            self.assertEqual(widest(length), many)
            self.assertEqual(widest(length=length), many)
        self.assertEqual((widest(9), widest(10), widest(12)), (126, 252, 924))

    def test_widest_by_trying_all(self):
        for length in (1, 2, 3, 4):
            sticks = all_sticks(length)
            greater = combinations(sticks, WIDEST[length] + 1)
            if length < 4:
                greater = [lot for many in range(WIDEST[length] + 1, len(sticks) + 1) for lot in combinations(sticks, many)]
            self.assertFalse(any(all(not lies_within(one, other) for one in lot for other in lot) for lot in greater))

    def test_middle(self):
        self.assertEqual(middle(1), (".",))
        self.assertEqual(middle(2), (".x", "x."))
        self.assertEqual(middle(3), ("..x", ".x.", "x.."))
        self.assertEqual(middle(4), ("..xx", ".x.x", ".xx.", "x..x", "x.x.", "xx.."))
        for length in range(1, 9):
            expected = tuple(stick for stick in all_sticks(length) if stick.count("x") == length // 2)
            self.assertEqual(middle(length), expected)
            self.assertIs(type(middle(length=length)), tuple)
            self.assertEqual(len(middle(length)), widest(length))

    def test_middle_is_safe(self):
        for length in range(1, 6):
            self.assertIs(is_safe(book_of(*middle(length)), Way()), True)

    def test_all_chains(self):
        for length in range(1, 9):
            chains = all_chains(length)
            self.assertEqual({type(thing) for thing in (chains, *chains)}, {tuple})
            self.assertEqual(len(chains), widest(length))
            self.assertEqual(sorted(stick for chain in chains for stick in chain), all_sticks(length))
            for chain in chains:
                self.assertGreater(len(chain), 0)
                for one, other in zip(chain, chain[1:]):
                    self.assertEqual(other.count("x"), one.count("x") + 1)
                    self.assertTrue(lies_within(one, other), chain)
            self.assertIs(chains_hold(length, chains), True)
            self.assertEqual(all_chains(length=length), chains)

    def test_somewhat_longer(self):
        self.assertEqual(len(middle(11)), 462)
        self.assertEqual(len(all_chains(11)), 462)
        self.assertIs(chains_hold(11, all_chains(11)), True)


class Holds(unittest.TestCase):
    def test_smallest(self):
        self.assertEqual(all_chains(1), ((".", "x"),))
        self.assertIs(chains_hold(1, ((".", "x"),)), True)
        for value in ((), ((),), (("x", "."),), ((".",), ("x",)), ((".",),), (("x",),), ((".", "."),), ((".", "x", "x"),),
                      ((".", "x"), ()), ((), (".", "x")), ((".", "x"), (".", "x")), (".", "x"), [(".", "x")],
                      ([".", "x"],), (".x",), ".x", ((".", "x", ".."),), (("", ".", "x"),), ((".", "X"),), ((0, 1),)):
            with self.subTest(value=value):
                self.assertIs(chains_hold(1, value), False)

    def test_each_correct_one(self):
        for value in ((("..", ".x", "xx"), ("x.",)), (("..", "x.", "xx"), (".x",)), ((".x",), ("..", "x.", "xx")),
                      ((".x", "xx"), ("..", "x.")), (("..", ".x"), ("x.", "xx"))):
            self.assertIs(chains_hold(2, value), True)
            self.assertIs(chains_hold(value=value, length=2), True)

    def test_wrong_ones(self):
        for value in ((("..", ".x"), ("x.",), ("xx",)), (("..", ".x", "xx"),), (("..", ".x", "xx", "x."),),
                      (("..", "xx"), (".x", "x.")), (("..", "xx"), (".x",)), (("xx", ".x", ".."), ("x.",)),
                      (("..", ".x", "x.", "xx"), ()), (("..", ".x", "xx"), ("x.", "xx")), (("..", ".x", "xx"), (".x",)),
                      (("..", ".x", "xx"), ("..", "x.")), (("..", ".x", "xx"), ("x.", "x.")), (("..", ".x", "xx"), "x."),
                      (("..", ".x", "xx"), ["x."]), [("..", ".x", "xx"), ("x.",)], (["..", ".x", "xx"], ("x.",)),
                      (("..", ".x", "xx"), ("x.",), ()), (("..", ".x", "xx"), (None,)), (("..", ".x", "xx"), None),
                      (("..", ".x", "xx"), ("x",)), (("..", ".x", "xx"), ("x..",)), ((".", "x"), ("..",)),
                      (("..", ".x", "xx"), (("x.",),)), (("..", ".x", "xx"), (["x."],)), (("..", "xx", "x."), (".x",))):
            with self.subTest(value=value):
                self.assertIs(chains_hold(2, value), False)

    def test_a_leap_is_no_chain(self):
        # Each stick once, as many chains as there can be, each stick within the next one; but "...." is followed by "..xx".
        kept = ((".x..", "xx..", "xx.x"), ("x...", "x.x.", "x.xx", "xxxx"), ("x..x",), ("..x.", ".xx.", "xxx."))
        self.assertIs(chains_hold(4, kept + (("....", "...x", "..xx"), (".x.x", ".xxx"))), True)
        self.assertIs(chains_hold(4, kept + (("....", "..xx"), ("...x", ".x.x", ".xxx"))), False)

    def test_one_notch_more_is_not_enough(self):
        # ".x." becomes "xx.", not "x.x".
        self.assertIs(chains_hold(3, (("...", "..x", ".xx", "xxx"), (".x.", "xx."), ("x..", "x.x"))), True)
        self.assertIs(chains_hold(3, (("...", "..x", ".xx", "xxx"), (".x.", "x.x"), ("x..", "xx."))), False)
        self.assertIs(chains_hold(2, (("..", ".x"), ("x.", "xx"))), True)
        self.assertIs(chains_hold(2, (("..", ".x", "x."), ("xx",))), False)

    def test_another_length(self):
        for length in range(1, 9):
            for other in range(1, 9):
                self.assertIs(chains_hold(length, all_chains(other)), length == other)

    def test_any_value(self):
        for length in range(1, 9):
            chains = all_chains(length)
            for thing in any_values():
                for value in (thing, (thing,), chains + (thing,), chains[1:] + (thing,), chains[:-1] + ((thing,),),
                              (chains[0][:-1] + (thing,),) + chains[1:], (chains[0] + (thing,),) + chains[1:]):
                    with self.subTest(length=length, value=value):
                        self.assertIs(chains_hold(length, value), holds_by_rule(length, value))

    def test_with_one_thing_otherwise(self):
        chance = random.Random(10)
        for length in range(2, 9):
            chains = all_chains(length)
            for _ in range(8):
                at, to = chance.sample(range(len(chains)), 2)
                kept = [chain for chain in chains if chain not in (chains[at], chains[to])]
                one, other = chains[at], chains[to]
                place = chance.randrange(len(one))
                wrong = (
                    kept + [one], kept + [one, ()], kept + [one + other], kept + [one, other, ()],
                    kept + [one[:place] + one[place + 1:], other], kept + [one + (one[place],), other],
                    kept + [one[:place], one[place:], other], kept + [one, one], kept + [one, other, other],
                    kept + [one[place:] + one[:place] + one[place:], other], kept + [one, list(other)],
                    kept + [one[:place] + (other[0],) + one[place + 1:], other],
                )
                for value in wrong:
                    with self.subTest(length=length, value=value):
                        self.assertIs(chains_hold(length, tuple(value)), False)
                if len(one) > 1:
                    self.assertIs(chains_hold(length, tuple(kept + [one[::-1], other])), False)
                self.assertIs(chains_hold(length, kept + [one, other]), False)
                self.assertIs(chains_hold(length, tuple(kept + [one, other])), True)
                self.assertIs(chains_hold(length, tuple([other] + kept + [one])), True)

    def test_shuffled(self):
        chance = random.Random(1)
        for length in range(1, 9):
            chains = list(all_chains(length))
            chance.shuffle(chains)
            self.assertIs(chains_hold(length, tuple(chains)), True)

    def test_places_exchanged(self):
        for length in range(1, 9):
            value = tuple(tuple(stick[::-1] for stick in chain) for chain in all_chains(length))
            self.assertIs(chains_hold(length, value), True)
            turned = str.maketrans(".x", "x.")
            value = tuple(tuple(stick.translate(turned) for stick in chain) for chain in all_chains(length))
            self.assertIs(chains_hold(length, value), length < 1)
            value = tuple(chain[::-1] for chain in value)
            self.assertIs(chains_hold(length, value), True)


if __name__ == "__main__":
    unittest.main()
