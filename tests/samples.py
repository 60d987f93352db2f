"""Values that several tests need."""

from itertools import combinations, product

from notchsafe import errors
from notchsafe.books import Book
from notchsafe.checkrules import CheckRule
from notchsafe.desk import Desk
from notchsafe.ledger import Ledger
from notchsafe.ways import Way

HOWS = ("add", "lose", "mixed")


def example():
    """The book of section 1 of the document."""
    return Book([(1, "x.."), (2, ".x."), (5, "xx."), (9, "xxx")])


def nested(kind, depth):
    value = kind()
    for _ in range(depth - 1):
        value = kind([value])
    return value


def odd_values():
    """Values of all kinds, none of which is a stick, a sequence of entries, or an integer from 0 on."""
    return [
        None, True, False, -1, -7, "", "0", "1", "y", "X", "x y", " x", "x.\n", "\nx", "o.", "x,", "add ", "Add",
        [True], (False,), [None], ("x",), ["x.."], [-1], (0, -1), [1, "x"], ((1, ""),), [[1, "x."]], [(True, "x")],
        nested(list, 8)[0], (nested(tuple, 7),), (nested(list, 7), 1), [nested(tuple, 7), "x"],
        Book([(3, "x.")]), Book(), example(), Way(), Way("lose", 0, []), CheckRule(["x"]), CheckRule(("x.", "..")),
        Ledger(Book()), Ledger(example()), Ledger(example()).trial(), Desk(),
        errors.NoSum(1), errors.InvalidStick(), errors.InvalidBook([0]),
    ]


def is_stick(value):
    return type(value) is str and value != "" and set(value) <= set(".x")


def all_sticks(length):
    """All sticks of a length, ascending."""
    return ["".join(signs) for signs in product(".x", repeat=length)]


def outcomes(stick, how, most, part):
    """What a stick can become, found by trying all changes, as a slow rule to compare with."""
    free = range(len(stick)) if part is None else [at for at in range(len(stick)) if at in part]
    turns = {"add": {".": "x"}, "lose": {"x": "."}, "mixed": {".": "x", "x": "."}}[how]
    found = set()
    for many in range(len(stick) + 1 if most is None else most + 1):
        for places in combinations(free, many):
            if all(stick[at] in turns for at in places):
                found.add("".join(turns[sign] if at in places else sign for at, sign in enumerate(stick)))
    return found


def any_values():
    """Values of all kinds: those above, and integers, sticks, sequences of them and of other values."""
    return [
        *odd_values(), 0, 1, 2, 9, 10 ** 30, ".", "x", "x..", "xxxx", [], (), [[]], ((),), ((), ()), ([], []), [(), ()],
        ((), (), ()), (((),), ()), ((), ((),)), (1, 2), [1, 2], ((1,), (2,)), ((1,), ((1,),)), ((1, 2), 3), ("x", "x"),
        (("x",), ("x",)), ((None,), ((None,),)), ((), None), (None, ()), ((True,), ((True,),)), (((1,),), ((1,),)),
        (Book(), Book()), ((Book(),), ((Book(),),)), ((Way(),), ((Way(),), Way())), ((0, [0]), ([0], (0,))),
        ((errors.NoSum(1),), ((errors.NoSum(1),),)), (((".", "x"),),), (((".",), ("x",)),), nested(tuple, 8),
    ]


def lies_within(one, other):
    """Whether all notches of a stick are some, but not all of those of another one."""
    return one != other and all(sign == "." or above == "x" for sign, above in zip(one, other))


def made_book(chance, length, many):
    """A book of so many entries (or of all sticks, if they are fewer) of a length."""
    sticks = all_sticks(length)
    chosen = chance.sample(sticks, min(many, len(sticks)))
    return Book(list(zip(chance.sample(range(100), len(chosen)), chosen)))


def book_of(*sticks):
    """A book of sticks with the sums 1, 2, 3 and so on."""
    return Book(list(enumerate(sticks, start=1)))
