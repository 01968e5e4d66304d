"""Section 10: apart lots, packings and bars."""

import functools
import itertools
import random
import unittest

from sumshelves.apart import (
    apart_always, left_lots, losing_always, losing_packed, packed, shows_apart_always, shows_losing_always,
    shows_losing_packed, shows_packed,
)
from sumshelves.errors import BadItem, BadLot, BadTolls, Out, TwoPieces
from sumshelves.lots import blocker
from sumshelves.stores import Store
from tests.asking import all_lots, check_shown, families_of, is_lot, shown, sums_text, texts_of_kinds
from tests.plain import LETTERS, Plain, alike, any_values, check_raises, made_text, number_below, plain_blocker

KNOT = "items a b c d\nhouse p 1 b\nhouse q 1 c\nhouse r 1 d\nhouse s 1 b+c+d\nhouse t 1 a+c+d\nhouse u 1 a+b+d"
# The lots of a are the seven lots that block a knot: each sum of houses that comes to a.
COUNTER = "items a b c d\nhouse p 1 b\nhouse q 1 c\nhouse r 1 b+c\nhouse s 1 a+b\nhouse t 1 a+c\nhouse u 1 a+b+c"
SUMS = "items a b\nhouse p 1 a\nhouse q 1 b\nhouse r 1 a+b"
TEXTS = [text for text in texts_of_kinds(61, 4, 8) if all(len(pieces) == 1 for pieces in Plain(text).pieces)]
SMALL = [text for text in texts_of_kinds(62, 3, 4, 2) if all(len(pieces) == 1 for pieces in Plain(text).pieces)]


def wide_texts(seed, often):
    """Stores of six to eight houses with sums of four items, unlike ones."""
    chance = random.Random(seed)
    every = ["+".join(some) for size in range(1, 5) for some in itertools.combinations("abcd", size)]
    texts = []
    for _ in range(often):
        pieces = chance.sample(every, chance.randint(6, 8))
        rows = [f"house h{LETTERS[at]} {chance.randint(0, 9)} {piece}" for at, piece in enumerate(pieces)]
        texts.append("\n".join(["items a b c d"] + rows))
    return texts


WIDE = wide_texts(63, 25)


def moved(text, chance):
    """The text with its houses in another sequence."""
    lines = text.split("\n")
    return "\n".join(lines[:1] + chance.sample(lines[1:], len(lines) - 1))


def packings(family, numbers):
    """All packings, as numbers for each lot, by going through all of them."""
    found = []

    def go(at, left, rows):
        if at == len(family):
            found.append(tuple(lot for lot, many in zip(family, rows) for _ in range(many)))
            return
        for many in range(min(left[house] for house in family[at]) + 1):
            rest = [number - many if house in family[at] else number for house, number in enumerate(left)]
            go(at + 1, rest, rows + [many])

    go(0, list(numbers), [])
    return found


def strong(numbers, lot):
    return sum(numbers[house] for house in lot)


def plain_rests(family, out, free):
    """What is left, by sets."""
    kept = {frozenset(lot) - set(free) for lot in family if not set(lot) & set(out)}
    least = [tuple(sorted(rest)) for rest in kept if not any(other < rest for other in kept)]
    return tuple(sorted(least, key=lambda lot: (len(lot), lot)))


def is_knot(family):
    if len(family) != 4 or any(len(lot) != 3 for lot in family) or len({house for lot in family for house in lot}) != 6:
        return False
    return all(len(set(one) & set(other)) == 1 for one, other in itertools.combinations(family, 2))


def is_counter(family):
    return is_knot(plain_blocker(8, family)) if len(family) == 7 else False


@functools.lru_cache(maxsize=None)
def bars(text, item, which):
    """All (out, free) at which a knot, or its counter, is left, by going through all pairs of lots."""
    family = families_of(text)[item]
    many = len(Plain(text).houses)
    found = []
    for signs in itertools.product((0, 1, 2), repeat=many):
        out = tuple(house for house, sign in enumerate(signs) if sign == 1)
        free = tuple(house for house, sign in enumerate(signs) if sign == 2)
        if which(plain_rests(family, out, free)):
            found.append((out, free))
    return found


class Case(unittest.TestCase):
    def items(self, text):
        return [item for item, family in enumerate(families_of(text)) if family]

    def right_packing(self, family, numbers, value):
        if type(value) is not tuple or not all(any(alike(lot, other) for other in family) for lot in value):
            return False
        places = [family.index(lot) for lot in value]
        return places == sorted(places) and all(
            sum(1 for lot in value if house in lot) <= number for house, number in enumerate(numbers))

    def right_packed(self, family, others, numbers, most, value):
        if type(value) is not tuple or len(value) != 2 or not self.right_packing(family, numbers, value[0]):
            return False
        if len(value[0]) != most or not any(alike(value[1], lot) for lot in others):
            return False
        return strong(numbers, value[1]) == min(strong(numbers, lot) for lot in others)

    def right_bar(self, text, item, which, always, value):
        if shown(value, "always", 1):
            return always
        if not shown(value, "bar", 3) or not is_lot(value[1], 8) or not is_lot(value[2], 8):
            return False
        many = len(Plain(text).houses)
        if max(value[1] + value[2], default=0) >= many or set(value[1]) & set(value[2]):
            return False
        return which(plain_rests(families_of(text)[item], value[1], value[2]))


class Packed(Case):
    def test_beside_all_packings_of_small_stores(self):
        chance = random.Random(1)
        for text in SMALL:
            store = Store(text)
            weak = [min(strength, 3) for strength in store.strengths]
            for house, strength in enumerate(weak):
                store = store.with_strength(house, strength)
            for item in self.items(text):
                least = families_of(text)[item]
                losing = plain_blocker(len(store), least)
                every = packings(least, weak)
                most = max(map(len, every))
                self.check_packed(shows_packed, (store, item), packed(store, item), least, losing, weak, most)
                for lots in every:
                    right = len(lots) == most
                    weakest = min(losing, key=lambda lot: strong(weak, lot))
                    self.assertIs(shows_packed(store, item, (lots, weakest)), right)
                tolls = tuple(chance.randint(0, 3) for _ in weak)
                most = max(map(len, packings(losing, tolls)))
                self.check_packed(shows_losing_packed, (store, item, tolls), losing_packed(store, item, tolls),
                                  losing, least, tolls, most)

    def check_packed(self, shows, args, value, family, others, numbers, most):
        self.assertTrue(self.right_packed(family, others, numbers, most, value), (args[0].text, args[1:], value))
        self.assertIs(shows(*args, value), True)

    def test_as_many_as_the_weakest_where_there_is_no_bar(self):
        chance = random.Random(2)
        for text in TEXTS + WIDE:
            store = Store(text)
            for item in self.items(text):
                least = families_of(text)[item]
                losing = plain_blocker(len(store), least)
                lots, weakest = packed(store, item)
                self.assertTrue(self.right_packed(least, losing, store.strengths, len(lots), (lots, weakest)))
                self.assertLessEqual(len(lots), strong(store.strengths, weakest))
                if apart_always(store, item) == ("always",):
                    self.assertEqual(len(lots), strong(store.strengths, weakest), (text, item))
                tolls = tuple(chance.randint(0, 9) for _ in store.strengths)
                lots, cheapest = losing_packed(store, item, tolls)
                self.assertTrue(self.right_packed(losing, least, tolls, len(lots), (lots, cheapest)))
                self.assertLessEqual(len(lots), strong(tolls, cheapest))
                if losing_always(store, item) == ("always",):
                    self.assertEqual(len(lots), strong(tolls, cheapest), (text, item, tolls))

    def test_by_hand(self):
        store = Store("items a\nhouse p 9 a\nhouse q 0 a\nhouse r 5 a")
        self.assertEqual(packed(store, 0), (((0,),) * 9 + ((2,),) * 5, (0, 1, 2)))
        self.assertEqual(losing_packed(store, 0, (3, 4, 9)), (((0, 1, 2),) * 3, (0,)))
        self.assertEqual(losing_packed(store, 0, (3, 0, 9)), ((), (1,)))
        self.assertEqual(packed(Store(SUMS), 0), (((0,), (1, 2)), (0, 1)))
        self.assertEqual(packed(Store(SUMS).with_strength(0, 0), 0)[0], ((1, 2),))
        lots, losing = packed(Store(KNOT), 0)
        self.assertEqual((len(lots), len(losing)), (1, 2))

    def test_shown_with_others_values(self):
        store = Store(SUMS)
        for value, right in (
            ((((0,), (1, 2)), (0, 1)), True), ((((0,), (1, 2)), (0, 2)), True), ((((1, 2), (0,)), (0, 1)), False),
            ((((0,),), (0, 1)), False), ((((0,), (0,)), (0, 1)), False), ((((0,), (1, 2)), (0,)), False), (([(0,), (1, 2)], (0, 1)), False),
            ((((0,), (1, 2)), (False, 1)), False), ((((False,), (1, 2)), (0, 1)), False), ((((0,), (1, 2)), (0, 1), None), False),
            ([((0,), (1, 2)), (0, 1)], False), ((((0,), (1, 2), ()), (0, 1)), False),
        ):
            self.assertIs(shows_packed(store, 0, value), right, value)
        knot = Store(KNOT)
        for lot in left_lots(knot, 0, (), ()):
            self.assertIs(shows_packed(knot, 0, ((lot,), packed(knot, 0)[1])), True)
        self.assertIs(shows_packed(knot, 0, ((), packed(knot, 0)[1])), False)

    def test_shown_with_values_near(self):
        chance = random.Random(3)
        for text in SMALL[::3] + [KNOT, SUMS] + WIDE[:2]:
            store = Store(text)
            for item in self.items(text)[:1]:
                least = families_of(text)[item]
                losing = plain_blocker(len(store), least)
                most = len(packed(store, item)[0])
                check_shown(self, shows_packed, (store, item), packed(store, item),
                            lambda value: self.right_packed(least, losing, store.strengths, most, value), chance, 200)
                tolls = tuple(chance.randint(0, 3) for _ in store.strengths)
                told = losing_packed(store, item, tolls)
                check_shown(self, shows_losing_packed, (store, item, tolls), told,
                            lambda value: self.right_packed(losing, least, tolls, len(told[0]), value), chance, 200)


class Bars(Case):
    def test_left_lots(self):
        chance = random.Random(4)
        for text in TEXTS + WIDE[:6]:
            store = Store(text)
            for item in self.items(text):
                for _ in range(12):
                    signs = [chance.choice([0, 0, 1, 2]) for _ in range(len(store))]
                    out = tuple(house for house, sign in enumerate(signs) if sign == 1)
                    free = tuple(house for house, sign in enumerate(signs) if sign == 2)
                    right = plain_rests(families_of(text)[item], out, free)
                    self.assertTrue(alike(left_lots(store, item, out, free), right), (text, item, out, free))
                self.assertEqual(left_lots(store, item, (), ()), families_of(text)[item])
                self.assertEqual(left_lots(store, item, tuple(range(len(store))), ()), ())
                self.assertEqual(left_lots(store, item, (), tuple(range(len(store)))), ((),))

    def test_left_lots_losing_lots(self):
        # Who is out is free for losing lots, and the other way about.
        for text in TEXTS[::2]:
            store, chance = Store(text), random.Random(text)
            for item in self.items(text):
                out, free = (chance.randrange(len(store)),), ()
                losing = plain_blocker(len(store), families_of(text)[item])
                left = left_lots(store, item, out, free)
                others = [lot for lot in plain_blocker(len(store), left) if not set(lot) & set(out)]
                self.assertEqual(tuple(others), plain_rests(losing, free, out))

    def test_bars_beside_all_pairs_of_lots(self):
        kinds = {}
        for text in TEXTS[::2] + WIDE + [KNOT, COUNTER]:
            store = Store(text)
            for item in self.items(text):
                self.check_bar(store, item, apart_always, shows_apart_always, is_knot, kinds)
                if len(store) < 8 or item == 0:
                    self.check_bar(store, item, losing_always, shows_losing_always, is_counter, kinds)
        self.assertGreater(min(kinds.values()), 4, kinds)
        self.assertEqual(len(kinds), 4)

    def check_bar(self, store, item, always, shows, which, kinds):
        value, every = always(store, item), bars(store.text, item, which)
        kinds[(which, value[0])] = kinds.get((which, value[0]), 0) + 1
        self.assertTrue(self.right_bar(store.text, item, which, not every, value), (store.text, item, value))
        self.assertEqual(value == ("always",), not every, (store.text, item))
        self.assertIs(shows(store, item, ("always",)), not every)
        for bar in every:
            self.assertIs(shows(store, item, ("bar", *bar)), True)
            self.assertEqual(bar[1] if which is is_knot else (), ())

    def test_a_bar_fails(self):
        for text in WIDE + [KNOT, COUNTER]:
            for item in self.items(text):
                for out, free in bars(text, item, is_knot)[:4]:
                    store = Store(text)
                    for house in range(len(store)):
                        store = store.with_strength(house, 0 if house in out else 2 if house in free else 1)
                    lots, losing = packed(store, item)
                    self.assertEqual((len(lots), strong(store.strengths, losing)), (1, 2))
                for out, free in bars(text, item, is_counter)[:4] if len(Plain(text).houses) < 8 else ():
                    tolls = tuple(2 if house in out else 0 if house in free else 1 for house in range(len(Plain(text).houses)))
                    lots, least = losing_packed(Store(text), item, tolls)
                    self.assertLess(len(lots), strong(tolls, least))

    def test_the_knot(self):
        chance = random.Random(5)
        store = Store(KNOT)
        self.assertTrue(is_knot(left_lots(store, 0, (), ())))
        self.assertEqual((apart_always(store, 0), losing_always(store, 0)), (("bar", (), ()), ("always",)))
        for item in (1, 2, 3):
            self.assertEqual(apart_always(store, item)[0], "always" if not bars(KNOT, item, is_knot) else "bar")
        for _ in range(8):
            more = KNOT + f"\nhouse v {chance.randint(0, 9)} {chance.choice(['a', 'b', 'a+b', 'a+b+c+d', 'c+d'])}"
            if chance.randint(0, 1):
                more = more + f"\nhouse w 3 {chance.choice(['a', 'c', 'a+b', 'b+d'])}"
            text = moved(more, chance)
            value = apart_always(Store(text), 0)
            self.assertEqual(value[0], "bar")
            self.assertTrue(self.right_bar(text, 0, is_knot, False, value))
            names = Plain(text).houses
            out = tuple(house for house, name in enumerate(names) if name in "vw")
            self.assertIs(shows_apart_always(Store(text), 0, ("bar", out, ())), True)
            self.assertIs(shows_apart_always(Store(text), 0, ("bar", (), out)), False)
            self.assertIs(shows_apart_always(Store(text), 0, ("always",)), False)
        turned = Store("\n".join(["items d a c b"] + [line.replace("b+c+d", "d+c+b").replace("a+c+d", "d+a+c").replace("a+b+d", "d+a+b")
                                                      for line in KNOT.split("\n")[1:]]))
        self.assertEqual(apart_always(turned, 1), ("bar", (), ()))

    def test_the_counter(self):
        store = Store(COUNTER)
        family = left_lots(store, 0, (), ())
        self.assertTrue(is_counter(family), family)
        self.assertEqual([len(lot) for lot in family], [2, 2, 2, 3, 3, 3, 3])
        self.assertTrue(is_knot(blocker(6, family)))
        self.assertEqual((losing_always(store, 0), apart_always(store, 0)), (("bar", (), ()), ("always",)))
        self.assertEqual(len(losing_packed(store, 0, (1,) * 6)[0]), 1)
        self.assertIs(shows_losing_always(store, 0, ("bar", (), ())), True)
        self.assertIs(shows_losing_always(store, 0, ("bar", (0,), ())), False)
        self.assertIs(shows_apart_always(store, 0, ("bar", (), ())), False)
        # What is free here is free of the counter, too, though not of a knot.
        more = store.with_house("v", 3, ((0, 3),)).with_house("w", 2, ((1, 3),))
        self.assertEqual(losing_always(more, 0)[0], "bar")
        self.assertIs(shows_losing_always(more, 0, losing_always(more, 0)), True)

    def test_few_houses_have_no_bar(self):
        for text in TEXTS + [sums_text(random.Random(at), [1, 2, 3], 4, 5) for at in range(10)]:
            if len(Plain(text).houses) < 6:
                for item in self.items(text):
                    self.assertEqual(apart_always(Store(text), item), ("always",))
                    self.assertEqual(losing_always(Store(text), item), ("always",))

    def test_shown_with_values_near(self):
        chance = random.Random(6)
        for text in [KNOT, COUNTER, KNOT + "\nhouse v 1 a+b", SUMS]:
            store = Store(text)
            for always, shows, which in ((apart_always, shows_apart_always, is_knot), (losing_always, shows_losing_always, is_counter)):
                value = always(store, 0)
                check_shown(self, shows, (store, 0), value,
                            lambda other: self.right_bar(text, 0, which, value == ("always",), other), chance, 300)
        more = Store(KNOT + "\nhouse v 1 a+b")
        for value, right in ((("bar", (6,), ()), True), (("bar", [6], ()), False), (("bar", (6,), []), False), (("bar", (6,)), False),
                             (("bar", (6,), (6,)), False), (("bar", (6, 7), ()), False), (("bar", (7,), ()), False), (("bar", (-1,), ()), False),
                             (("bar", (True, 6), ()), False), (("bar", (), (), ()), False), (("always", None), False)):
            self.assertIs(shows_apart_always(more, 0, value), right, value)


class Errors(Case):
    CALLS = [(packed, 0), (shows_packed, 1), (losing_packed, 1), (shows_losing_packed, 2), (left_lots, 2), (apart_always, 0),
             (shows_apart_always, 1), (losing_always, 0), (shows_losing_always, 1)]

    def test_two_pieces_and_items_and_out(self):
        two = Store("items a b c\nhouse p 1 a\nhouse q 1 b a\nhouse r 1 a b")
        one = Store("items a b c\nhouse p 1 a\nhouse q 1 b+c\nhouse r 1 a")
        for call, many in self.CALLS:
            for values in ([None] * many, [(0,)] * many, [-1] * many):
                for item in (0, 2, 3, None, True):
                    check_raises(self, TwoPieces, 1, call, two, item, *values)
                for item in any_values() + [3]:
                    if not number_below(item, 3):
                        check_raises(self, BadItem, item, call, one, item, *values)
                check_raises(self, Out, 1, call, one, 1, *values)
                check_raises(self, Out, 2, call, one, 2, *values)

    def test_tolls(self):
        store = Store(SUMS)
        for value in any_values() + [(0, 0), (0, 0, 0, 0), (0, 0, 10), (0, -1, 0), (True, 0, 0), (0, False, 0), [1, 1, 1], ((1, 1),) * 3]:
            if not (type(value) is tuple and len(value) == 3 and all(number_below(part, 10) for part in value)):
                check_raises(self, BadTolls, value, losing_packed, store, 0, value)
                check_raises(self, BadTolls, value, shows_losing_packed, store, 0, value, None)
        self.assertEqual(losing_packed(store, 0, (0, 9, 9))[1], (0,))
        self.assertEqual(losing_packed(store, 0, (9, 9, 9))[0], ((0, 1),) * 9)

    def test_lots(self):
        store = Store(SUMS)
        for value in any_values() + [(3,), (1, 0), [0], (True,), (0, 0)]:
            if not is_lot(value, 3):
                for other in ((), (0,), None, (9,)):
                    check_raises(self, BadLot, value, left_lots, store, 0, value, other)
                check_raises(self, BadLot, value, left_lots, store, 0, (0,), value)
        for out, free in itertools.product(all_lots(3), repeat=2):
            if set(out) & set(free):
                check_raises(self, BadLot, free, left_lots, store, 0, out, free)
            else:
                self.assertEqual(left_lots(store, 0, out, free), plain_rests(((0,), (1, 2)), out, free))

    def test_made_texts_of_two_pieces(self):
        chance = random.Random(7)
        for _ in range(20):
            text = made_text(chance, 3, 5, 2)
            pieces = Plain(text).pieces
            two = [house for house, row in enumerate(pieces) if len(row) == 2]
            if two:
                check_raises(self, TwoPieces, two[0], packed, Store(text), 0)


if __name__ == "__main__":
    unittest.main()
