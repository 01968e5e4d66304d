"""Section 11: mending."""

import random
import unittest
from fractions import Fraction

from sumshelves.errors import BadHouse, BadRates, NoHelp, NotBorne
from sumshelves.mending import greatest_mending, helping_lots, shows_greatest_mending
from sumshelves.plans import borne, greatest
from sumshelves.stores import Store
from tests.asking import (
    HALF, NOUGHT, ONE, Asked, all_lots, check_shown, families_of, is_fraction, made_rates, read, texts_of_kinds, times_rates,
)
from tests.plain import Plain, alike, check_raises, plain_blocker, raised

THREE = "items a b\nhouse one 2 a\nhouse two 2 b\nhouse three 1 a+b"
ODD = "items a b c\nhouse p 3 a\nhouse q 0 a+b\nhouse r 9 a"
PAIR = "items a b\nhouse p 2 a b\nhouse q 3 a\nhouse r 2 b\nhouse s 4 a+b\nhouse t 0 a b"
TEXTS = texts_of_kinds(81) + [THREE, ODD, PAIR]
SMALL = texts_of_kinds(82, 3, 5, 1) + [THREE, PAIR]


def helping(text, house):
    """The least lots of others of whose pieces the house's pieces are sums, by going through all of them."""
    plain = Plain(text)
    lots = [lot for lot in all_lots(len(plain.houses)) if house not in lot]
    lots = [lot for lot in lots if all(piece in plain.made(lot) for piece in plain.pieces[house])]
    return tuple(lot for lot in lots if not any(set(other) < set(lot) for other in lots))


class Mending(unittest.TestCase):
    def right(self, asked, lots, house, rates, value):
        if type(value) is not tuple or len(value) != 4:
            return False
        speed, plan, pages, prices = value
        behind = asked.behind((house,))
        if not is_fraction(speed) or not behind.bears(rates, plan) or not asked.are_prices(prices):
            return False
        if type(pages) is not tuple:
            return False
        for page in pages:
            if type(page) is not tuple or len(page) != 2 or not any(alike(page[0], lot) for lot in lots):
                return False
            if not is_fraction(page[1]) or page[1][0] == 0:
                return False
        if list(pages) != sorted(pages) or len({lot for lot, _ in pages}) < len(pages):
            return False
        if sum((read(share) for _, share in pages), Fraction(0)) != read(speed):
            return False
        loads = behind.loads(plan)
        for lot, share in pages:
            for other in lot:
                loads[other] += read(share)
        if any(load > strength for load, strength in zip(loads, behind.strengths)):
            return False
        if behind.price(lots, prices) != 1:
            return False
        return behind.cost(rates, prices) + read(speed) == behind.worth(prices)

    def test_helping_lots(self):
        some = none = 0
        for text in TEXTS:
            store = Store(text)
            for house in range(len(store)):
                lots = helping(text, house)
                self.assertTrue(alike(helping_lots(store, house), lots), (text, house))
                some, none = some + bool(lots), none + (not lots)
        self.assertGreater(min(some, none), 20)

    def test_helping_by_hand(self):
        store = Store(PAIR)
        self.assertEqual(helping_lots(store, 0), ((4,), (1, 2), (1, 3), (2, 3)))
        self.assertEqual(helping_lots(store, 1), ((0,), (4,), (2, 3)))
        self.assertEqual(helping_lots(store, 3), ((0,), (4,), (1, 2)))
        self.assertEqual(helping_lots(Store(ODD), 1), ())
        self.assertEqual(helping_lots(Store(ODD), 0), ((2,),))

    def test_what_cannot_be_made_anew_without(self):
        # The least lots of others that contents wake which wake the house: the blocker of those that help.
        for text in TEXTS[::2]:
            store, plain = Store(text), Plain(text)
            for house in range(len(store)):
                woken = [tuple(other for other in plain.awake(content) if other != house)
                         for content in plain.contents() if house in plain.awake(content)]
                least = {lot for lot in woken if not any(set(other) < set(lot) for other in woken)}
                lots = helping_lots(store, house)
                self.assertEqual(set(plain_blocker(len(store), lots)), least)

    def test_plan_pages_and_prices_come_to_the_same(self):
        chance = random.Random(1)
        seen = {"told": 0, "NoHelp": 0, "NotBorne": 0, "fast": 0}
        for text in TEXTS:
            store, asked = Store(text), Asked(text)
            for house in range(asked.houses):
                rates = times_rates(made_rates(chance, asked.items, 3), chance.choice([ONE, HALF, (1, 5), NOUGHT]))
                lots = helping(text, house)
                error = raised(greatest_mending, store, house, rates)
                told = borne(store.with_strength(house, 0), rates)
                seen["told" if error is None else type(error).__name__] += 1
                if not lots:
                    check_raises(self, NoHelp, house, greatest_mending, store, house, rates)
                    check_raises(self, NoHelp, house, shows_greatest_mending, store, house, rates, None)
                elif told[0] != "plan":
                    for problem in (error, raised(shows_greatest_mending, store, house, rates, None)):
                        self.assertIs(type(problem), NotBorne)
                        self.assertTrue(alike(problem.value, told))
                else:
                    value = greatest_mending(store, house, rates)
                    seen["fast"] += value[0][0] > 0
                    self.assertTrue(self.right(asked, lots, house, rates, value), (text, house, rates, value))
                    self.assertIs(shows_greatest_mending(store, house, rates, value), True)
        self.assertGreater(min(seen.values()), 20, seen)

    def test_a_house_with_one_item_alone(self):
        seen = 0
        for text in TEXTS:
            store, plain = Store(text), Plain(text)
            for house, pieces in enumerate(plain.pieces):
                if len(pieces) == 1 and len(pieces[0]) == 1 and helping(text, house):
                    item = min(pieces[0])
                    speed = greatest_mending(store, house, tuple([NOUGHT] * len(plain.items)))[0]
                    alone = greatest(store.with_strength(house, 0), item)
                    self.assertEqual(speed, alone[1])
                    seen += 1
                    # Its helping lots are the item's least lots but the house itself.
                    others = tuple(lot for lot in families_of(text)[item] if lot != (house,))
                    self.assertEqual(tuple(lot for lot in helping_lots(store, house) if house not in lot), others)
        self.assertGreater(seen, 20)

    def test_by_hand(self):
        store = Store(THREE)
        none = (NOUGHT, NOUGHT)
        self.assertEqual(greatest_mending(store, 0, none)[:3], (ONE, (), (((1, 2), ONE),)))
        self.assertEqual(greatest_mending(store, 2, none)[:3], ((2, 1), (), (((0, 1), (2, 1)),)))
        self.assertEqual(greatest_mending(store, 2, ((2, 1), NOUGHT))[:3], (NOUGHT, ((0, (0,), (2, 1)),), ()))
        self.assertEqual(greatest_mending(store, 2, (ONE, (2, 3)))[0], ONE)
        self.assertEqual(greatest_mending(Store(ODD), 0, ((8, 1), NOUGHT, NOUGHT))[0], ONE)
        self.assertEqual(greatest_mending(Store(ODD), 2, ((8, 3), NOUGHT, NOUGHT))[0], (1, 3))
        # Without strength on what helps nothing is made anew, though nothing else is asked.
        weak = Store("items a b\nhouse p 9 a\nhouse q 0 a\nhouse r 2 b")
        value = greatest_mending(weak, 0, (NOUGHT, ONE))
        self.assertEqual(value[:3], (NOUGHT, ((1, (2,), ONE),), ()))
        self.assertIs(shows_greatest_mending(weak, 0, (NOUGHT, ONE), value[:3] + ((NOUGHT, ONE, NOUGHT),)), True)
        self.assertIs(shows_greatest_mending(weak, 0, (NOUGHT, ONE), value[:3] + ((NOUGHT, HALF, NOUGHT),)), False)
        self.assertIs(shows_greatest_mending(weak, 0, (NOUGHT, ONE), value[:3] + ((NOUGHT, ONE, HALF),)), False)

    def test_out_is_told_in_not_borne(self):
        for call in (greatest_mending, lambda *args: shows_greatest_mending(*args, None)):
            error = raised(call, Store(ODD), 0, (NOUGHT, ONE, HALF))
            self.assertEqual((type(error), error.value), (NotBorne, ("out", 2)))

    def test_shown_with_values_near(self):
        chance = random.Random(2)
        checked = 0
        for text in SMALL * 2:
            store, asked = Store(text), Asked(text)
            house = chance.randrange(asked.houses)
            rates = times_rates(made_rates(chance, asked.items, 3), chance.choice([ONE, HALF, (1, 4)]))
            lots = helping(text, house)
            if raised(greatest_mending, store, house, rates) is None:
                checked += 1
                check_shown(self, shows_greatest_mending, (store, house, rates), greatest_mending(store, house, rates),
                            lambda value: self.right(asked, lots, house, rates, value), chance, 200)
        self.assertGreater(checked, 8)

    def test_errors_in_sequence(self):
        store, odd = Store(THREE), Store(ODD)
        for call, more in ((greatest_mending, ()), (shows_greatest_mending, (None,))):
            check_raises(self, BadHouse, 3, call, store, 3, (ONE,), *more)
            check_raises(self, BadHouse, True, call, store, True, (ONE, ONE), *more)
            few = (ONE,)
            check_raises(self, BadRates, few, call, odd, 1, few, *more)
            check_raises(self, NoHelp, 1, call, odd, 1, (NOUGHT, NOUGHT, ONE), *more)
        check_raises(self, BadHouse, -1, helping_lots, store, -1)
        check_raises(self, BadHouse, 3, helping_lots, store, 3)


if __name__ == "__main__":
    unittest.main()
