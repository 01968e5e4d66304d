"""What the tests work out plainly by themselves, beside the program, and the values that they hand in."""

import itertools
import random

from sumshelves.stores import Store

LETTERS = "abcdefghijklmnopqrstuvwxyz"


def nested(deep, around):
    """A value that is nested so deep."""
    value = 0
    for _ in range(deep):
        value = around(value)
    return value


def any_values():
    """Values of all kinds, each anew."""
    store = Store("items a b\nhouse p 1 a\nhouse q 2 b")
    return [
        0, 1, 2, 3, 4, 7, 8, 9, 10, -1, -2, 999999999, -999999999, True, False, None,
        "", "a", "b", "p", "q", "0", "1", "00", "01", "10", "11", "000", "1111", "had", "unseen", "None", "items",
        (), (0,), (1,), (True,), (False,), (0, 1), (1, 0), (0, 0), (0, True), (None,), ("a",), ("0", "1"), ((),),
        ((0,),), ((0,), (1,)), ((True,),), ([0],), ([],), (-1,), (8,), (0, 9), (0, 1, 2, 3, 4, 5, 6, 7, 8),
        ("had", ()), ("had", ((0, 0),)), ("unseen", "10"), ("unseen", ""), ("unseen", None), ["had", ((0, 0),)],
        [], [0], [0, 1], [()], [(0,)], ["0", "1"], {}, {0: 1}, {"a": (0,)}, {(0,): [1]}, [{}], ({},),
        store, (store,), [store], {"a": store}, ("had", store), (store, ()),
        nested(100, lambda value: (value,)), nested(100, lambda value: [value]), nested(100, lambda value: {0: value}),
        ("had", nested(98, lambda value: (value,))), tuple(range(300)), "x" * 3000,
    ]


def alike(one, other):
    """Whether both are the same value, of the same kinds at any depth."""
    if type(one) is not type(other):
        return False
    if isinstance(one, (tuple, list)):
        return len(one) == len(other) and all(alike(part, also) for part, also in zip(one, other))
    if isinstance(one, dict):
        return alike(list(one.items()), list(other.items()))
    return one == other


def near(value):
    """Values that are nearly this one, otherwise at one place, at any depth."""
    if isinstance(value, tuple):
        yield list(value)
        yield value + (0,)
        yield value + value[-1:]
        yield value[1:]
        yield value[:-1]
        yield value[::-1]
        yield (value,)
        yield {part: part for part in value}
        for at, part in enumerate(value):
            for other in near(part):
                yield value[:at] + (other,) + value[at + 1:]
    elif isinstance(value, str):
        yield from (value + "0", value + "1", value[1:], value[:-1], "0" * len(value), "1" * len(value))
        yield from (value[::-1], value.upper(), "2" + value[1:], (value,), list(value), tuple(value), None)
        for at, sign in enumerate(value):
            yield value[:at] + ("1" if sign == "0" else "0") + value[at + 1:]
    elif value is None:
        yield from (0, False, (), "None", (None,), ((0, 1),))
    else:
        yield from (value + 1, value - 1, -value - 1, str(value), (value,), None)
        if value in (0, 1):
            yield bool(value)


def is_int(value):
    return type(value) is int


def number_below(value, many):
    return type(value) is int and 0 <= value < many


def rising(value, many):
    """Whether this is an ascending tuple of numbers below many."""
    return type(value) is tuple and any(
        alike(value, numbers) for size in range(many + 1) for numbers in itertools.combinations(range(many), size))


def right_content(value, many):
    return type(value) is str and value in ["".join(signs) for signs in itertools.product("01", repeat=many)]


class Plain:
    """A store, read plainly: names, strengths, and pieces as frozensets of numbers of items."""

    def __init__(self, text):
        lines = [line.split(" ") for line in text.split("\n")]
        self.items = lines[0][1:]
        self.houses = [line[1] for line in lines[1:]]
        self.strengths = [int(line[2]) for line in lines[1:]]
        self.pieces = [
            [frozenset(self.items.index(name) for name in word.split("+")) for word in line[3:]] for line in lines[1:]]

    def lots(self):
        """All lots, those of fewer houses ahead, of as many as Python sorts."""
        many = len(self.houses)
        return [lot for size in range(many + 1) for lot in itertools.combinations(range(many), size)]

    def contents(self):
        return ["".join(signs) for signs in itertools.product("01", repeat=len(self.items))]

    def value(self, piece, content):
        return sum(1 for item in piece if content[item] == "1") % 2

    def awake(self, content):
        return tuple(house for house, pieces in enumerate(self.pieces)
                     if any(self.value(piece, content) for piece in pieces))

    def made(self, lot):
        """All sums of pieces at some spots of the lot's houses."""
        sums = {frozenset()}
        for house in lot:
            for piece in self.pieces[house]:
                sums |= {one ^ piece for one in sums}
        return sums

    def is_had(self, item, lot):
        return frozenset([item]) in self.made(lot)

    def least(self, item):
        had = [lot for lot in self.lots() if self.is_had(item, lot)]
        return tuple(lot for lot in had if not any(set(other) < set(lot) for other in had))

    def losing(self, item):
        return plain_blocker(len(self.houses), self.least(item))

    def right_had(self, item, lot, value):
        """Whether a value is ("had", spots) or ("unseen", content), by all spots and all contents."""
        if type(value) is not tuple or len(value) != 2 or type(value[0]) is not str:
            return False
        if value[0] == "unseen":
            return any(alike(value[1], content) for content in self.contents()
                       if content[item] == "1" and not set(self.awake(content)) & set(lot))
        return value[0] == "had" and any(alike(value[1], spots) for spots in self.all_spots(item, lot))

    def all_spots(self, item, lot):
        """All ascending tuples of spots of the lot's houses with just this item as their sum."""
        spots = [(house, number) for house in lot for number in range(len(self.pieces[house]))]
        found = []
        for size in range(len(spots) + 1):
            for some in itertools.combinations(spots, size):
                total = frozenset()
                for house, number in some:
                    total = total ^ self.pieces[house][number]
                if total == frozenset([item]):
                    found.append(some)
        return found


def plain_blocker(many, family):
    """The blocker of a family of lots, by going through all lots."""
    lots = [lot for size in range(many + 1) for lot in itertools.combinations(range(many), size)]
    meeting = [lot for lot in lots if all(set(lot) & set(other) for other in family)]
    return tuple(lot for lot in meeting if not any(set(other) < set(lot) for other in meeting))


def made_text(chance, items, houses, most_pieces=2):
    """The text of a store of so many items and houses."""
    names = chance.sample(LETTERS, items)
    lines = ["items " + " ".join(names)]
    every = [some for size in range(1, items + 1) for some in itertools.combinations(names, size)]
    for number in range(houses):
        pieces = chance.sample(every, chance.randint(1, min(most_pieces, len(every))))
        words = ["house", "h" + LETTERS[number], str(chance.randint(0, 9))] + ["+".join(piece) for piece in pieces]
        lines.append(" ".join(words))
    return "\n".join(lines)


def made_texts(seed, often=2, most_houses=8):
    """Texts of stores of one to four items, of two houses and more, with one piece, and with one or two."""
    chance = random.Random(seed)
    return [made_text(chance, items, houses, most)
            for items in range(1, 5) for houses in range(2, most_houses + 1) for most in (1, 2) for _ in range(often)]


def raised(call, *args, **named):
    """The error that a call raises; None if it raises none."""
    try:
        call(*args, **named)
    except Exception as error:
        return error
    return None


def check_raises(case, kind, value, call, *args, **named):
    """That a call raises just this error, with this very value."""
    error = raised(call, *args, **named)
    shown = (kind.__name__, call, args)
    case.assertIs(type(error), kind, shown)
    if isinstance(value, int):
        case.assertTrue(alike(error.value, value), shown)
    else:
        case.assertTrue(error.value is value or isinstance(value, str) and error.value == value, shown)
