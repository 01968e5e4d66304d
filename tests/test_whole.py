"""Section 9: whole asks, placings and trees."""

import itertools
import random
import unittest
from fractions import Fraction

from sumshelves.errors import BadAsks, BadNumber, Out, Wide
from sumshelves.plans import borne, greatest
from sumshelves.stores import Store
from sumshelves.whole import (
    any_asks, most_any, most_of, shows_any_asks, shows_most_of, shows_whole_plan, whole_plan,
)
from tests.asking import (
    HALF, NOUGHT, ONE, Asked, are_fractions, check_shown, placings, read, shown, texts_of_kinds,
)
from tests.plain import LETTERS, alike, any_values, check_raises, near, number_below

SUMS = "items a b\nhouse p 1 a\nhouse q 1 b\nhouse r 1 a+b"
CROSS = "items a b x\nhouse k 1 x\nhouse l 1 a+x\nhouse m 1 b+x\nhouse n 1 a+b+x"
ODD = "items a b c\nhouse p 3 a\nhouse q 0 a+b\nhouse r 9 a"
KNOT = ("items a b c d\nhouse p 1 b\nhouse q 1 c\nhouse r 1 d\nhouse s 1 b+c+d\nhouse t 1 a+c+d\nhouse u 1 a+b+d")
TEXTS = texts_of_kinds(51, 4, 6) + [SUMS, CROSS, ODD, KNOT]


def weakened(text, most):
    """The text with strengths of this at most, so that whole asks have little room."""
    lines = text.split("\n")
    rows = [line.split(" ") for line in lines[1:]]
    return "\n".join([lines[0]] + [" ".join(row[:2] + [str(min(int(row[2]), most))] + row[3:]) for row in rows])


def sums_alone(seed, often):
    """Stores of six unlike sums of four items with little strength: here whole asks are fewer most often."""
    chance = random.Random(seed)
    every = ["+".join(some) for size in range(1, 5) for some in itertools.combinations("abcd", size)]
    return ["\n".join(["items a b c d"] + [f"house h{LETTERS[at]} {chance.randint(1, 3)} {piece}"
                                           for at, piece in enumerate(chance.sample(every, 6))]) for _ in range(often)]


GAPS = sums_alone(53, 150)
WEAK = [weakened(text, most) for text in TEXTS for most in (1, 2)]


class Trees(Asked):
    """What a tree tells, by going along it as the document tells it."""

    def is_tree(self, asks, value, placed=()):
        left = [many - sum(number for item, _, number in placed if item == at) for at, many in enumerate(asks)]
        house_left = [strength - sum(number for _, lot, number in placed if house in lot)
                      for house, strength in enumerate(self.strengths)]
        unset = [[lot for lot in family if (item, lot) not in [row[:2] for row in placed]]
                 for item, family in enumerate(self.families)]
        if shown(value, "none", 2):
            return number_below(value[1], self.items) and left[value[1]] > 0 and not unset[value[1]]
        if shown(value, "prices", 2):
            wanted = [item for item in range(self.items) if left[item] > 0]
            if not are_fractions(value[1], self.houses) or not all(unset[item] for item in wanted):
                return False
            cost = sum((left[item] * self.price(unset[item], value[1]) for item in wanted), Fraction(0))
            return cost > sum(many * read(price) for many, price in zip(house_left, value[1]))
        if not shown(value, "set", 4):
            return False
        _, item, lot, trees = value
        if not number_below(item, self.items) or not any(alike(lot, other) for other in unset[item]):
            return False
        most = min([left[item]] + [house_left[house] for house in lot])
        if type(trees) is not tuple or len(trees) != most + 1:
            return False
        return all(self.is_tree(asks, tree, placed + ((item, lot, number),)) for number, tree in enumerate(trees))

    def is_placing(self, asks, value):
        if type(value) is not tuple:
            return False
        for row in value:
            if type(row) is not tuple or len(row) != 3 or not number_below(row[0], self.items):
                return False
            if not any(alike(row[1], lot) for lot in self.families[row[0]]) or type(row[2]) is not int or row[2] < 1:
                return False
        if list(value) != sorted(value) or len({row[:2] for row in value}) < len(value):
            return False
        if any(sum(row[2] for row in value if row[0] == item) != many for item, many in enumerate(asks)):
            return False
        return all(sum(row[2] for row in value if house in row[1]) <= self.strengths[house] for house in range(self.houses))

    def right_plan(self, asks, value):
        out = next((item for item, many in enumerate(asks) if many and not self.families[item]), None)
        if out is not None:
            return alike(value, ("out", out))
        if shown(value, "placing", 2):
            return self.is_placing(asks, value[1])
        return shown(value, "barred", 2) and self.is_tree(asks, value[1])

    def right_most(self, item, value):
        if type(value) is not tuple or len(value) != 3 or not number_below(value[0], 10):
            return False
        number, placing, tree = value
        if not self.is_placing(self.of(item, number), placing):
            return False
        return tree is None if number == 9 else self.is_tree(self.of(item, number + 1), tree)

    def right_any(self, many, value, always):
        if shown(value, "always", 1):
            return always
        if not shown(value, "barred", 3):
            return False
        asks = value[1]
        if type(asks) is not tuple or len(asks) != self.items or not all(number_below(part, many + 1) for part in asks):
            return False
        return sum(asks) == many and self.is_tree(asks, value[2])

    def of(self, item, number):
        return tuple(number if other == item else 0 for other in range(self.items))


def made_asks(chance, asked, most):
    asks = [0] * asked.items
    for _ in range(chance.randint(0, most)):
        item = chance.randrange(asked.items)
        if asks[item] < 9:
            asks[item] += 1
    return tuple(asks)


def edge_asks(chance, asked, store):
    """Asks that are borne as rates, while one more of any item that is not out is not, or twelve."""
    asks = (0,) * asked.items
    items = [item for item in range(asked.items) if asked.families[item]]
    while items and sum(asks) < 12:
        item = chance.choice(items)
        more = tuple(many + (at == item) for at, many in enumerate(asks))
        if more[item] > 9 or borne(store, tuple((many, 1) for many in more))[0] != "plan":
            items.remove(item)
        else:
            asks = more
    return asks


class Plans(unittest.TestCase):
    def test_beside_all_placings_of_small_stores(self):
        chance = random.Random(1)
        words = {"placing": 0, "barred": 0, "out": 0}
        for text in WEAK:
            store, asked = Store(text), Trees(text)
            for _ in range(4):
                asks = made_asks(chance, asked, 5)
                value = whole_plan(store, asks)
                words[value[0]] += 1
                self.assertTrue(asked.right_plan(asks, value), (text, asks, value))
                self.assertIs(shows_whole_plan(store, asks, value), True)
                if value[0] != "out":
                    every = placings(asked.families, [int(strength) for strength in asked.strengths], asks)
                    self.assertEqual(value[0] == "placing", bool(every), (text, asks))
                    for placing in every[:5]:
                        self.assertIs(shows_whole_plan(store, asks, ("placing", placing)), True)
        self.assertGreater(min(words.values()), 20, words)

    def test_asks_at_the_edge_of_what_is_borne(self):
        chance = random.Random(2)
        words = {"placing": 0, "barred": 0}
        for text in TEXTS + WEAK[::2] + GAPS:
            store, asked = Store(text), Trees(text)
            asks = edge_asks(chance, asked, store)
            value = whole_plan(store, asks)
            words[value[0]] += 1
            self.assertTrue(asked.right_plan(asks, value), (text, asks, value))
            self.assertIs(shows_whole_plan(store, asks, value), True)
            if all(len(piece) == 1 for pieces in asked.plain.pieces for piece in pieces):
                self.assertEqual(value[0], "placing")
        self.assertGreater(min(words.values()), 2, words)

    def test_single_pieces_place_what_is_borne(self):
        chance = random.Random(3)
        for _ in range(80):
            names = "abcd"[:chance.randint(1, 4)]
            rows = [f"house h{LETTERS[at]} {chance.randint(0, 4)} " + " ".join(chance.sample(names, chance.randint(1, min(2, len(names)))))
                    for at in range(chance.randint(2, 6))]
            text = "\n".join(["items " + " ".join(names)] + rows)
            store, asked = Store(text), Trees(text)
            asks = made_asks(chance, asked, 12)
            words = {"plan": "placing", "prices": "barred", "out": "out"}
            told = borne(store, tuple((many, 1) for many in asks))
            self.assertEqual(whole_plan(store, asks)[0], words[told[0]], (text, asks))

    def test_cross(self):
        store, asked = Store(CROSS), Trees(CROSS)
        self.assertEqual(asked.families[:2], (((0, 1), (2, 3)), ((0, 2), (1, 3))))
        self.assertEqual(borne(store, (ONE, ONE, NOUGHT))[0], "plan")
        value = whole_plan(store, (1, 1, 0))
        self.assertEqual(value[0], "barred")
        self.assertTrue(asked.right_plan((1, 1, 0), value))
        self.assertEqual(value[1][0], "set")
        self.assertEqual(whole_plan(store, (1, 0, 0))[0], "placing")

    def test_others_trees_of_the_cross(self):
        store, asked, asks = Store(CROSS), Trees(CROSS), (1, 1, 0)
        low, high = ("prices", (NOUGHT, NOUGHT, ONE, ONE)), ("prices", (ONE, ONE, NOUGHT, NOUGHT))
        tree = ("set", 0, (0, 1), (low, high))
        # All four lots are set one behind the other: then nothing is there for what is left.
        deep = ("set", 0, (0, 1), (("set", 0, (2, 3), (("none", 0), ("set", 1, (1, 3), (("set", 1, (0, 2), (("none", 1),)),)))),
                                   ("set", 1, (0, 2), (("set", 1, (1, 3), (("none", 1),)),))))
        lax = ("set", 2, (0,), (tree,))
        idle = ("set", 2, asked.families[2][-1], (tree,))
        for value, right in (
            (tree, True), (deep, True), (lax, True), (idle, True), (low, False), (high, False), (("none", 0), False), (("none", 2), False),
            (("set", 0, (0, 1), (low,)), False), (("set", 0, (0, 1), (high, low)), False), (("set", 0, (0, 1), [low, high]), False),
            (("set", 0, (0, 1), (low, high, high)), False), (("set", 1, (0, 1), (low, high)), False), (["set", 0, (0, 1), (low, high)], False),
            (("set", False, (0, 1), (low, high)), False), (("set", 0, (False, 1), (low, high)), False), (("set", 0, (0, 2), (low, high)), False),
            (("set", 0, (2, 3), (high, low)), True), (("set", 1, (0, 2), (("prices", (NOUGHT, ONE, NOUGHT, ONE)), ("prices", (ONE, NOUGHT, ONE, NOUGHT)))), True),
            (("set", 0, (0, 1), (("set", 0, (0, 1), (low, high)), high)), False),
            (("set", 0, (0, 1), (("prices", (NOUGHT, NOUGHT, HALF, HALF)), high)), True),
            (("set", 0, (0, 1), (("prices", [NOUGHT, NOUGHT, ONE, ONE]), high)), False),
            (("set", 0, (0, 1), (("prices", (NOUGHT, NOUGHT, NOUGHT, ONE)), high)), False),
        ):
            self.assertIs(shows_whole_plan(store, asks, ("barred", value)), right, value)
            self.assertIs(asked.is_tree(asks, value), right, value)
        # Of item 0 nothing is left where its lots are set, or some lot is not set; other items are there none.
        for item, right in ((0, False), (1, True), (2, False), (3, False), (-3, False), (-2, False), (True, False), (None, False)):
            value = ("set", 0, (0, 1), (low, ("set", 0, (2, 3), (("set", 1, (0, 2), (("set", 1, (1, 3), (("none", item),)),)),))))
            self.assertIs(shows_whole_plan(store, asks, ("barred", value)), right, item)
            self.assertIs(asked.is_tree(asks, value), right, item)
        for value in near(deep):
            self.assertIs(shows_whole_plan(store, asks, ("barred", value)), asked.is_tree(asks, value), value)
        self.assertIs(shows_whole_plan(store, asks, tree), False)
        self.assertIs(shows_whole_plan(store, asks, ("barred", tree, None)), False)
        for other in ((1, 0, 0), (0, 1, 0), (0, 0, 0)):
            self.assertIs(shows_whole_plan(store, other, ("barred", tree)), False)

    def test_deep_trees(self):
        # Each lot is set one behind the other, as long as there are some: nothing is left for the last asks.
        text = "\n".join(["items a b c d"] + [f"house h{LETTERS[at]} 1 {words}" for at, words in enumerate(
            ("b+d a+b+c+d", "a+b+c a+b+c+d", "b+d c", "a+c+d b+c+d", "b+c a+d", "a+b+d a+b+c"))])
        store, asked = Store(text), Trees(text)
        asks = (3, 3, 3, 3)
        self.assertEqual(whole_plan(store, asks)[0], "barred")
        spots = [(item, lot) for item in range(4) for lot in asked.families[item]]
        self.assertGreater(len(spots), 30)
        left = [1] * 6
        tree = self.deep(spots, [3] * 4, left)
        self.assertIs(shows_whole_plan(store, asks, ("barred", tree)), True)
        self.assertTrue(asked.is_tree(asks, tree))
        self.assertIs(shows_whole_plan(store, (0, 0, 0, 0), ("barred", tree)), False)

    def deep(self, spots, asks, left):
        if not spots:
            return "none", next(item for item in range(4) if asks[item] > 0)
        item, lot = spots[0]
        most = min([asks[item]] + [left[house] for house in lot])
        trees = []
        for number in range(most + 1):
            fewer = [many - number if at == item else many for at, many in enumerate(asks)]
            rest = [many - number if house in lot else many for house, many in enumerate(left)]
            trees.append(self.deep(spots[1:], fewer, rest))
        return "set", item, lot, tuple(trees)

    def test_shown_with_values_near(self):
        chance = random.Random(4)
        for text in WEAK[::9] + [CROSS, SUMS, ODD, KNOT]:
            store, asked = Store(text), Trees(text)
            for asks in (made_asks(chance, asked, 4), edge_asks(chance, asked, store)):
                check_shown(self, shows_whole_plan, (store, asks), whole_plan(store, asks),
                            lambda value: asked.right_plan(asks, value), chance, 200)

    def test_by_hand(self):
        sums = Store(SUMS)
        self.assertEqual(whole_plan(sums, (0, 0)), ("placing", ()))
        self.assertEqual(whole_plan(Store(ODD), (9, 0, 3)), ("out", 2))
        self.assertEqual(whole_plan(Store(ODD), (0, 1, 0))[0], "barred")
        self.assertIs(shows_whole_plan(Store(ODD), (0, 0, 1), ("barred", ("none", 2))), False)
        self.assertIs(shows_whole_plan(Store(ODD), (0, 0, 1), ("out", 2)), True)
        self.assertIs(shows_whole_plan(Store("items a b\nhouse p 1 a\nhouse q 1 a"), (0, 1), ("out", True)), False)
        for value in (("placing", ((0, (0,), True), (1, (1,), 1))), ("placing", ((0, (0,), 1), (1, (0, 2), 0), (1, (1,), 1)))):
            self.assertIs(shows_whole_plan(sums, (1, 1), value), False)
        nine = Store("items a b\nhouse p 9 a\nhouse q 9 b")
        for rows, right in ((((0, (0,), 3),), True), (((0, (0,), 1), (0, (0,), 2)), False), (((0, (0,), 2), (0, (0,), 1)), False),
                            (((0, (0,), 1),) * 3, False), (((0, (0,), 4), (1, (1,), -1)), False)):
            self.assertIs(shows_whole_plan(nine, (3, 0), ("placing", rows)), right, rows)

    def test_most_asks(self):
        nine = Store("items a b\nhouse p 9 a\nhouse q 9 b")
        self.assertEqual(whole_plan(nine, (9, 3)), ("placing", ((0, (0,), 9), (1, (1,), 3))))
        for asks in ((9, 4), (10, 0), (10, -1), (13, 0), (7, 6), (1,), (1, 1, 1), (True, 0), (0, False), [1, 1], ((1, 1), (0, 1)), None):
            check_raises(self, BadAsks, asks, whole_plan, nine, asks)
            check_raises(self, BadAsks, asks, shows_whole_plan, nine, asks, None)
        for value in any_values():
            if not (type(value) is tuple and len(value) == 2 and all(number_below(part, 10) for part in value)):
                check_raises(self, BadAsks, value, whole_plan, nine, value)


class Most(unittest.TestCase):
    def test_most_of(self):
        for text in TEXTS + WEAK:
            store, asked = Store(text), Trees(text)
            for item in range(asked.items):
                if not asked.families[item]:
                    check_raises(self, Out, item, most_of, store, item)
                    check_raises(self, Out, item, shows_most_of, store, item, None)
                    continue
                value = most_of(store, item)
                self.assertTrue(asked.right_most(item, value), (text, item, value))
                self.assertIs(shows_most_of(store, item, value), True)
                self.assertLessEqual(value[0], read(greatest(store, item)[1]))

    def test_most_of_beside_all_placings(self):
        for text in WEAK[::4]:
            store, asked = Store(text), Trees(text)
            strengths = [int(strength) for strength in asked.strengths]
            for item in range(asked.items):
                if asked.families[item]:
                    number = most_of(store, item)[0]
                    self.assertTrue(placings(asked.families, strengths, asked.of(item, number)))
                    self.assertTrue(number == 9 or not placings(asked.families, strengths, asked.of(item, number + 1)))

    def test_nine(self):
        store = Store("items a b\nhouse p 8 a\nhouse q 1 a\nhouse r 9 b\nhouse s 9 b")
        self.assertEqual(most_of(store, 0), (9, ((0, (0,), 8), (0, (1,), 1)), None))
        self.assertEqual(most_of(store, 1)[0], 9)
        self.assertIs(most_of(store, 1)[2], None)
        less = store.with_strength(1, 0)
        self.assertEqual(most_of(less, 0)[:2], (8, ((0, (0,), 8),)))
        self.assertIs(shows_most_of(less, 0, (8, ((0, (0,), 8),), ("prices", (ONE, ONE, NOUGHT, NOUGHT)))), True)
        self.assertIs(shows_most_of(less, 0, (8, ((0, (0,), 8),), None)), False)
        self.assertIs(shows_most_of(store, 0, (9, ((0, (0,), 8), (0, (1,), 1)), ("prices", (ONE, ONE, NOUGHT, NOUGHT)))), False)
        self.assertIs(shows_most_of(store, 1, (9, ((1, (2,), 4), (1, (3,), 5)), None)), True)
        ten = store.with_strength(1, 2)
        self.assertIs(shows_most_of(ten, 0, (10, ((0, (0,), 8), (0, (1,), 2)), ("prices", (ONE, ONE, NOUGHT, NOUGHT)))), False)
        self.assertIs(shows_most_of(store, 1, (8, ((1, (2,), 4), (1, (3,), 4)), None)), False)

    def test_most_of_with_values_near(self):
        chance = random.Random(5)
        for text in WEAK[::9] + [CROSS, SUMS, KNOT]:
            store, asked = Store(text), Trees(text)
            item = chance.randrange(asked.items)
            if asked.families[item]:
                check_shown(self, shows_most_of, (store, item), most_of(store, item),
                            lambda value: asked.right_most(item, value), chance, 200)

    def all_asks(self, items, many):
        return [asks for asks in itertools.product(range(many + 1), repeat=items) if sum(asks) == many]

    def test_any_asks(self):
        words = {"always": 0, "barred": 0}
        for text in TEXTS:
            store, asked = Store(text), Trees(text)
            if () in asked.families:
                continue
            most = most_any(store)
            self.assertTrue(number_below(most, 7))
            for many in range(7):
                value = any_asks(store, many)
                words[value[0]] += 1
                self.assertEqual(value[0] == "always", many <= most, (text, many))
                self.assertTrue(asked.right_any(many, value, many <= most), (text, many, value))
                self.assertIs(shows_any_asks(store, many, value), True)
                if many <= 2:
                    placed = [whole_plan(store, asks)[0] == "placing" for asks in self.all_asks(asked.items, many)]
                    self.assertEqual(all(placed), value[0] == "always")
        self.assertGreater(min(words.values()), 30, words)

    def test_any_asks_beside_all_placings(self):
        for text in WEAK[::5]:
            store, asked = Store(text), Trees(text)
            if () in asked.families:
                continue
            strengths = [int(strength) for strength in asked.strengths]
            for many in (1, 2, 3):
                always = all(placings(asked.families, strengths, asks) for asks in self.all_asks(asked.items, many))
                self.assertEqual(any_asks(store, many)[0] == "always", always, (text, many))
                self.assertIs(shows_any_asks(store, many, ("always",)), always)

    def test_any_asks_by_hand(self):
        nine = Store("items a b\nhouse p 9 a\nhouse q 9 b")
        self.assertEqual((any_asks(nine, 6), most_any(nine), any_asks(nine, 0)), (("always",), 6, ("always",)))
        five = nine.with_strength(0, 5)
        self.assertEqual((any_asks(five, 5), any_asks(five, 6)[:2], most_any(five)), (("always",), ("barred", (6, 0)), 5))
        none = nine.with_strength(1, 0)
        self.assertEqual((any_asks(none, 0), any_asks(none, 1)[:2], most_any(none)), (("always",), ("barred", (0, 1)), 0))
        tree = ("prices", (NOUGHT, ONE))
        for value, right in ((("barred", (0, 2), tree), True), (("barred", (1, 1), tree), True), (("barred", (2, 0), tree), False),
                             (("barred", (0, 1), tree), False), (("barred", [0, 2], tree), False), (("barred", (0, 2)), False),
                             (("barred", (0, 2, 0), tree), False), (("barred", (-1, 3), tree), False), (("always",), False),
                             (("barred", (True, 1), tree), False), (("barred", (0, 2), ("none", 1)), False)):
            self.assertIs(shows_any_asks(none, 2, value), right, value)
        self.assertIs(shows_any_asks(nine, 6, ("always",)), True)
        self.assertIs(shows_any_asks(nine, 6, ("always", None)), False)

    def test_any_asks_with_values_near(self):
        chance = random.Random(6)
        for text in [CROSS, SUMS, KNOT] + TEXTS[::11]:
            store, asked = Store(text), Trees(text)
            if () in asked.families:
                continue
            for many in (most_any(store), min(6, most_any(store) + 1)):
                always = many <= most_any(store)
                check_shown(self, shows_any_asks, (store, many), any_asks(store, many),
                            lambda value: asked.right_any(many, value, always), chance, 150)


class Errors(unittest.TestCase):
    def test_wide(self):
        seven = Store("items a b\n" + "\n".join(f"house h{LETTERS[at]} 1 a" for at in range(7)))
        for call, args in ((whole_plan, (None,)), (shows_whole_plan, (None, None)), (most_of, (None,)), (shows_most_of, (1, None)),
                           (any_asks, (9,)), (shows_any_asks, (None, None)), (most_any, ())):
            check_raises(self, Wide, 6, call, seven, *args)
            check_raises(self, Wide, 6, call, seven.with_house("more", 1, ((0,),)), *args)

    def test_out_ahead_of_numbers(self):
        store = Store("items a b c\nhouse p 1 a\nhouse q 1 a\nhouse r 1 b+c")
        for value in any_values() + [0, 3, 7]:
            check_raises(self, Out, 1, any_asks, store, value)
            check_raises(self, Out, 1, shows_any_asks, store, value, ("always",))
        check_raises(self, Out, 1, most_any, store)

    def test_numbers(self):
        store = Store(SUMS)
        for value in any_values() + [-1, 7, 6.0, "3"]:
            if not number_below(value, 7):
                check_raises(self, BadNumber, value, any_asks, store, value)
                check_raises(self, BadNumber, value, shows_any_asks, store, value, ("always",))
        self.assertEqual([any_asks(store, many)[0] for many in range(7)], ["always"] * 3 + ["barred"] * 4)


if __name__ == "__main__":
    unittest.main()
