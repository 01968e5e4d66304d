"""Section 5: had, least lots, losing lots, contents that show them, the blocker; and their errors."""

import itertools
import random
import unittest

from sumshelves.errors import BadContent, BadFamily, BadItem, BadLot, BadNumber, Out
from sumshelves.lots import (
    awake, blocker, had, items_had, least_lots, losing_content, losing_lots, shows_had, shows_losing_content, used,
)
from sumshelves.stores import Store
from tests.plain import (
    Plain, alike, any_values, check_raises, made_texts, near, number_below, plain_blocker, right_content, rising,
)

TEXT = "items a b c\nhouse p 2 a\nhouse q 0 b a+b\nhouse r 1 a+b+c"
NO_C = "items a b c\nhouse p 1 a\nhouse q 1 b a+b\nhouse r 0 a+b"
MADE = made_texts(5)
SMALL = made_texts(6, 1, 4)
WRONG_LOTS = [
    (3,), (-1,), (1, 0), (0, 0), (0, 1, 1), (True,), (False, 1), (0, True), ("p",), ((0,),), (None,), [0], [], "", "0",
    {0: 1}, (0, 1, 2, 3), (0, [1]), (2, 1, 0), (0, 2, 1), 0, None, False,
]


class Case(unittest.TestCase):
    def wrong(self, kind, value, call, *args):
        check_raises(self, kind, value, call, *args)

    def wrong_items(self, call):
        """That each value that is no number of three items is told."""
        for value in any_values() + [3, -3, "c", [2], (2,)]:
            if not number_below(value, 3):
                self.wrong(BadItem, value, call, value)

    def wrong_lots(self, call):
        """That each value that is no lot of three houses is told."""
        for value in any_values() + WRONG_LOTS:
            if not rising(value, 3):
                self.wrong(BadLot, value, call, value)


class BesidePlain(Case):
    def test_had_of_all_lots(self):
        for text in MADE:
            store, plain = Store(text), Plain(text)
            for lot in plain.lots():
                sums = plain.made(lot)
                items = tuple(item for item in range(len(plain.items)) if frozenset([item]) in sums)
                self.assertTrue(alike(items_had(store, lot), items), (text, lot))
                for item in range(len(plain.items)):
                    self.check_had(plain, item, lot, had(store, item, lot), item in items)

    def check_had(self, plain, item, lot, told, is_had):
        self.assertIs(type(told), tuple)
        word, shown = told
        self.assertEqual(word, "had" if is_had else "unseen", (plain.items, lot))
        if is_had:
            self.assertTrue(type(shown) is tuple and list(shown) == sorted(set(shown)))
            total = frozenset()
            for spot in shown:
                self.assertTrue(type(spot) is tuple and [type(part) for part in spot] == [int, int])
                self.assertIn(spot[0], lot)
                self.assertGreaterEqual(spot[1], 0)
                total = total ^ plain.pieces[spot[0]][spot[1]]
            self.assertEqual(total, frozenset([item]))
        else:
            self.assertIn(shown, plain.contents())
            self.assertEqual(shown[item], "1")
            self.assertFalse(set(plain.awake(shown)) & set(lot))

    def test_families(self):
        for text in MADE:
            store, plain = Store(text), Plain(text)
            for item in range(len(plain.items)):
                least = plain.least(item)
                self.assertTrue(alike(least_lots(store, item), least), text)
                self.assertTrue(alike(used(store, item), tuple(sorted({k for lot in least for k in lot}))), text)
                if least:
                    self.assertTrue(alike(losing_lots(store, item), plain.losing(item)), text)
                else:
                    self.wrong(Out, item, losing_lots, store, item)

    def test_some_items_are_out(self):
        out = [least_lots(Store(text), 0) for text in MADE].count(())
        self.assertGreater(out, 5)
        self.assertLess(out, len(MADE) - 5)

    def test_awake_and_losing_contents(self):
        for text in MADE:
            store, plain = Store(text), Plain(text)
            for content in plain.contents():
                self.assertTrue(alike(awake(store, content), plain.awake(content)))
            for item in range(len(plain.items)):
                for lot in plain.losing(item) if plain.least(item) else ():
                    content = losing_content(store, item, lot)
                    self.assertIn(content, plain.contents())
                    self.assertEqual((content[item], plain.awake(content)), ("1", lot))

    def test_told_twice_alike(self):
        for text in MADE[::3]:
            for call, args in ((had, (0, (0, 1))), (least_lots, (0,)), (used, (0,)), (items_had, ((0,),))):
                self.assertTrue(alike(call(Store(text), *args), call(Store(text), *args)))


class Shown(Case):
    def test_all_right_values_of_had(self):
        for text in SMALL:
            store, plain = Store(text), Plain(text)
            for item, lot in itertools.product(range(len(plain.items)), plain.lots()):
                right = [("had", spots) for spots in plain.all_spots(item, lot)]
                right += [("unseen", content) for content in plain.contents()
                          if content[item] == "1" and not set(plain.awake(content)) & set(lot)]
                self.assertEqual(len({word for word, _ in right}), 1)
                for value in right:
                    self.assertIs(shows_had(store, item, lot, value), True, (text, item, lot, value))
                told = had(store, item, lot)
                self.assertIn(told, right)

    def test_values_near_those_of_had(self):
        for text in SMALL[::3] + [TEXT, NO_C]:
            store, plain = Store(text), Plain(text)
            for item, lot in itertools.product(range(len(plain.items)), plain.lots()):
                for value in near(had(store, item, lot)):
                    right = plain.right_had(item, lot, value)
                    self.assertIs(shows_had(store, item, lot, value), right, (text, item, lot, value))

    def test_all_contents_and_spots_as_values(self):
        for text in SMALL[1::4]:
            store, plain = Store(text), Plain(text)
            spots = [(k, number) for k in range(len(store)) for number in range(len(store.pieces[k]))]
            shown = [some for size in range(4) for some in itertools.permutations(spots, size)] + plain.contents()
            for item, lot in ((0, ()), (0, (0,)), (len(plain.items) - 1, (0, 1)), (0, tuple(range(len(store))))):
                for word, part in itertools.product(("had", "unseen"), shown):
                    value = (word, part)
                    self.assertIs(shows_had(store, item, lot, value), plain.right_had(item, lot, value), (text, value))

    def test_any_values_are_not_shown(self):
        store = Store(TEXT)
        for value in any_values() + [("had", value) for value in any_values()] + [("unseen", v) for v in any_values()]:
            for lot in ((), (0,), (1, 2), (0, 1, 2)):
                right = Plain(TEXT).right_had(0, lot, value)
                self.assertIs(shows_had(store, 0, lot, value), right)

    def test_by_hand(self):
        store = Store(TEXT)
        for value, right in (
            (("had", ((0, 0),)), True), (("had", ((1, 0), (1, 1))), True), (("had", ((0, 0), (1, 0), (1, 1))), False),
            (("had", ((1, 1), (1, 0))), False), (("had", ((0, False),)), False), (("had", ((False, 0),)), False),
            (("had", [(0, 0)]), False), (["had", ((0, 0),)], False), (("had", ([0, 0],)), False), (("had", ()), False),
            (("had", ((0, 0), (0, 0), (0, 0))), False), (("had", ((0, 1),)), False), (("had", ((0, -1),)), False),
            (("had", ((1, -2), (1, -1))), False), (("had", ((-3, 0),)), False), (("had", ((3, 0),)), False),
            (("had", ((0, 0, 0),)), False), (("had", ((0,),)), False), (("had", (0, 0)), False),
            (("had", ((1, 0), (True, 1))), False), (("had", ((1, False), (1, True))), False),
            (("Had", ((0, 0),)), False), (("unseen", ((0, 0),)), False), (("had", ((0, 0),), None), False),
            (("had",), False), ("had", False), (("unseen", "100"), False), (("unseen", "000"), False), (None, False),
        ):
            self.assertIs(shows_had(store, 0, (0, 1), value), right, value)
        for value, right in ((("unseen", "001"), True), (("unseen", "101"), False), (("unseen", "011"), False),
                             (("unseen", "111"), False), (("unseen", "000"), False), (("unseen", "0010"), False),
                             (("unseen", "01"), False), (("unseen", ("0", "0", "1")), False), (("had", ()), False),
                             (("unseen", 1), False), (("unseen", None), False), (("unseen", "00"), False),
                             (("unseen", ""), False), (("unseen", ["0", "0", "1"]), False), (("seen", "001"), False)):
            self.assertIs(shows_had(store, 2, (0, 1), value), right, value)
        self.assertIs(shows_had(store, 0, (1,), ("had", ((0, 0),))), False)

    def test_losing_contents(self):
        for text in MADE:
            store, plain = Store(text), Plain(text)
            for item in range(len(plain.items)):
                for lot in plain.losing(item) if plain.least(item) else ():
                    for content in plain.contents():
                        right = content[item] == "1" and plain.awake(content) == lot
                        self.assertIs(shows_losing_content(store, item, lot, content), right, (text, item, lot, content))

    def test_values_near_losing_contents(self):
        store, plain = Store(TEXT), Plain(TEXT)
        for item in range(3):
            for lot in plain.losing(item):
                for value in any_values() + list(near(losing_content(store, item, lot))):
                    right = right_content(value, 3) and value[item] == "1" and plain.awake(value) == lot
                    self.assertIs(shows_losing_content(store, item, lot, value), right, (item, lot, value))


class Errors(Case):
    def setUp(self):
        self.store = Store(TEXT)
        self.no_c = Store(NO_C)

    def tearDown(self):
        self.assertEqual(vars(self.store), vars(Store(TEXT)))

    def test_bad_item(self):
        store = self.store
        for call in (least_lots, used, losing_lots):
            self.wrong_items(lambda value: call(store, value))
        for lot in ((0,), (9,), None):
            self.wrong_items(lambda value: had(store, value, lot))
            self.wrong_items(lambda value: shows_had(store, value, lot, None))
            self.wrong_items(lambda value: losing_content(store, value, lot))
            self.wrong_items(lambda value: shows_losing_content(store, value, lot, "100"))

    def test_bad_lot(self):
        store = self.store
        self.wrong_lots(lambda value: items_had(store, value))
        for item in range(3):
            self.wrong_lots(lambda value: had(store, item, value))
            self.wrong_lots(lambda value: shows_had(store, item, value, ("had", ((0, 0),))))
            self.wrong_lots(lambda value: losing_content(store, item, value))
            self.wrong_lots(lambda value: shows_losing_content(store, item, value, "100"))

    def test_lots_that_are_no_losing_lots(self):
        store, plain = self.store, Plain(TEXT)
        for item, lot in itertools.product(range(3), plain.lots()):
            if lot not in plain.losing(item):
                self.wrong(BadLot, lot, losing_content, store, item, lot)
                for value in ("100", None, "111"):
                    self.wrong(BadLot, lot, shows_losing_content, store, item, lot, value)
        self.assertEqual(losing_lots(store, 0), ((0, 1),))
        for lot in ((0, True), (False, 1), [0, 1], (1, 0), ((0, 1),)):
            self.wrong(BadLot, lot, losing_content, store, 0, lot)
            self.wrong(BadLot, lot, shows_losing_content, store, 0, lot, "100")

    def test_out(self):
        store = self.no_c
        self.assertEqual((least_lots(store, 2), used(store, 2)), ((), ()))
        self.wrong(Out, 2, losing_lots, store, 2)
        for lot in any_values() + [(0, 1), (0,), (3,)]:
            self.wrong(Out, 2, losing_content, store, 2, lot)
            self.wrong(Out, 2, shows_losing_content, store, 2, lot, "001")
        self.assertEqual(had(store, 2, (0, 1, 2)), ("unseen", "001"))
        self.assertEqual(items_had(store, (0, 1, 2)), (0, 1))

    def test_bad_content(self):
        for value in any_values() + ["00", "0000", "002", "00 ", ("0", "0", "0"), ["0", "0", "0"], 111, (0, 0, 0)]:
            if not right_content(value, 3):
                self.wrong(BadContent, value, awake, self.store, value)
        for code in list(range(32, 127)) + [10]:
            for value in (chr(code) + "01", "0" + chr(code) + "1", "10" + chr(code)):
                if chr(code) not in "01":
                    self.wrong(BadContent, value, awake, self.store, value)
                    self.assertIs(shows_had(self.store, 0, (), ("unseen", value)), False)
                    self.assertIs(shows_losing_content(self.store, 0, (0, 1), value), False)

    def test_nothing_handed_in_is_changed(self):
        for value in ([0, 1], {0: [1]}, [[0], (1,)]):
            kept = str(value)
            self.wrong(BadItem, value, had, self.store, value, value)
            self.wrong(BadLot, value, had, self.store, 0, value)
            self.wrong(BadFamily, value, blocker, 3, value)
            self.assertIs(shows_had(self.store, 0, (0,), value), False)
            self.assertEqual(str(value), kept)


class Blocker(Case):
    def test_by_hand(self):
        for many, family, told in (
            (0, (), ((),)), (0, ((),), ()), (2, (), ((),)), (2, ((),), ()), (3, ((), (0,), (0, 1)), ()), (8, (), ((),)),
            (1, ((0,),), ((0,),)), (2, ((0,),), ((0,),)), (2, ((0,), (1,)), ((0, 1),)), (2, ((0, 1),), ((0,), (1,))),
            (3, ((0, 1), (0, 2), (1, 2)), ((0, 1), (0, 2), (1, 2))), (3, ((0,), (0, 1)), ((0,),)), (8, ((7,),), ((7,),)),
            (4, ((0,), (1, 2), (1, 3)), ((0, 1), (0, 2, 3))),
        ):
            self.assertTrue(alike(blocker(many, family), told), (many, family))

    def families(self, many, often):
        """Families of lots of so many houses, also with lots within others."""
        chance = random.Random(many)
        lots = [lot for size in range(many + 1) for lot in itertools.combinations(range(many), size)]
        for number in range(often):
            least = 0 if number % 4 == 0 else 1
            some = chance.sample(lots[least:], min(chance.randint(0, 7), len(lots) - least))
            yield tuple(sorted(some, key=lambda lot: (len(lot), lot)))

    def test_beside_plain(self):
        for many, often in ((0, 4), (1, 8), (2, 20), (3, 40), (4, 40), (5, 30), (6, 15), (7, 8), (8, 6)):
            for family in self.families(many, often):
                told = blocker(many, family)
                self.assertTrue(alike(told, plain_blocker(many, family)), (many, family))
                least = tuple(lot for lot in family if not any(set(other) < set(lot) for other in family))
                self.assertTrue(alike(blocker(many, told), least), (many, family))

    def test_bad_number(self):
        for value in any_values() + [-1, 9, 10, True, False, "2", (2,), [2]]:
            if not number_below(value, 9):
                for family in ((), ((0,),), None, [()]):
                    self.wrong(BadNumber, value, blocker, value, family)

    def test_every_number(self):
        for many in range(9):
            self.assertEqual(blocker(many, (tuple(range(many)),)), tuple((house,) for house in range(many)))

    def test_bad_family(self):
        wrong = [
            [], [()], [(0,)], ([0],), ((0, 1), (0,)), ((1,), (0,)), ((0,), (0,)), ((0,), ()), ((), ()), ((1, 0),), ((0, 0),),
            ((True,),), ((0, True),), ((False,), (1,)), ((3,),), ((-1,),), ((0, 3),), (0,), (0, 1), 0, None, "", "0", ("0",),
            (("0",),), ((0,), 1), ((0,), None), ((0,), [1]), ((0,), (0, 2), (0, 1)), ((0,), (0, 1), (0, 1)), (None,),
            ({0: 1},), {(0,): 1}, (((0,),),), ((0, 1), (1, 2), (2,)), ((0,), (1,), (2,), (3,)), (("a",), (0,)), ((0, "a"),),
        ]
        for value in wrong:
            self.wrong(BadFamily, value, blocker, 3, value)
        for value in any_values():
            if not self.is_family(value, 3):
                self.wrong(BadFamily, value, blocker, 3, value)
        for value in (((0,),), (0,), ((),) * 2):
            self.wrong(BadFamily, value, blocker, 0, value)
        for many in range(8):
            family = ((many,),)
            self.wrong(BadFamily, family, blocker, many, family)

    def is_family(self, value, many):
        if type(value) is not tuple or not all(rising(lot, many) for lot in value):
            return False
        return list(value) == sorted(set(value), key=lambda lot: (len(lot), lot))

    def test_values_near_families(self):
        for family in (((0,), (1, 2)), ((), (0, 1), (1, 2)), ((0, 1, 2),), ((0,), (1,), (2,))):
            for value in near(family):
                if self.is_family(value, 3):
                    self.assertTrue(alike(blocker(3, value), plain_blocker(3, value)))
                else:
                    self.wrong(BadFamily, value, blocker, 3, value)


if __name__ == "__main__":
    unittest.main()
