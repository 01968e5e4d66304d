"""Section 11: falls."""

import random
import unittest
from fractions import Fraction

from sumshelves.errors import BadNumber, BadRates, NoRates, NotBorne, Wide
from sumshelves.falls import (
    bearing_lots, behind_falls, breaking_lots, greatest_behind, most_falls, shows_behind_falls, shows_greatest_behind,
)
from sumshelves.lots import blocker
from sumshelves.plans import borne, greatest_times
from sumshelves.stores import Store
from tests.asking import (
    HALF, NOUGHT, ONE, Asked, all_lots, check_shown, is_fraction, is_lot, made_rates, read, shown, some_rates,
    texts_of_kinds, times_rates, told,
)
from tests.plain import LETTERS, alike, check_raises, number_below

THREE = "items a b\nhouse one 2 a\nhouse two 2 b\nhouse three 1 a+b"
ODD = "items a b c\nhouse p 3 a\nhouse q 0 a+b\nhouse r 9 a"
COPIES = "items a b\nhouse p 2 a b\nhouse q 2 a b\nhouse r 2 a b\nhouse s 2 a b"
TEXTS = texts_of_kinds(71, 4, 6)
WIDE = texts_of_kinds(72, 4, 8, 1)
SMALL = texts_of_kinds(73, 3, 4, 1)


def weak_rates(chance, asked):
    """Rates, some 0, that are borne often."""
    rates = made_rates(chance, asked.items, 4, 2)
    return times_rates(rates, chance.choice([(1, 1), (1, 2), (1, 4)]))


def fallen(store, lot):
    for house in lot:
        store = store.with_strength(house, 0)
    return store


class Falls(unittest.TestCase):
    def are_plans(self, asked, rates, many, value):
        lots = all_lots(asked.houses, [many])
        if type(value) is not tuple or len(value) != len(lots):
            return False
        return all(asked.behind(lot).bears(rates, plan) for lot, plan in zip(lots, value))

    def right_behind(self, asked, rates, many, value):
        if shown(value, "borne", 2):
            return self.are_plans(asked, rates, many, value[1])
        if not shown(value, "broken", 3):
            return asked.is_out(rates, value)
        _, lot, prices = value
        if not is_lot(lot, asked.houses) or len(lot) != many:
            return False
        return asked.behind(lot).bars(rates, prices)

    def right_greatest(self, asked, rates, many, value):
        if not shown(value, "times", 5):
            return asked.is_out(rates, value)
        _, times, plans, lot, prices = value
        if not is_fraction(times) or not self.are_plans(asked, times_rates(rates, times), many, plans):
            return False
        if not is_lot(lot, asked.houses) or len(lot) != many:
            return False
        return asked.behind(lot).even(rates, prices, read(times))

    def test_behind_all_numbers_of_falls(self):
        chance = random.Random(1)
        words = {"borne": 0, "broken": 0, "out": 0}
        for text in TEXTS + WIDE:
            store, asked = Store(text), Asked(text)
            rates = weak_rates(chance, asked)
            for many in range(asked.houses + 1):
                value = behind_falls(store, rates, many)
                words[value[0]] += 1
                self.assertTrue(self.right_behind(asked, rates, many, value), (text, rates, many, value))
                self.assertIs(shows_behind_falls(store, rates, many, value), True)
                if value[0] == "broken":
                    self.assertNotEqual(borne(fallen(store, value[1]), rates)[0], "plan")
        self.assertGreater(min(words.values()), 30, words)

    def test_behind_by_hand(self):
        store = Store(THREE)
        self.assertEqual(behind_falls(store, (ONE, ONE), 0)[0], "borne")
        self.assertEqual(len(behind_falls(store, (ONE, ONE), 1)[1]), 3)
        self.assertEqual(behind_falls(store, (ONE, ONE), 2)[0], "broken")
        self.assertEqual(behind_falls(store, (NOUGHT, NOUGHT), 3), ("borne", ((),)))
        self.assertEqual(behind_falls(store, (NOUGHT, NOUGHT), 1), ("borne", ((), (), ())))
        self.assertEqual(behind_falls(store, (NOUGHT, (1, 9)), 3)[:2], ("broken", (0, 1, 2)))
        self.assertEqual(behind_falls(store, ((11, 10), ONE), 1)[:2], ("broken", (0,)))
        for many in range(4):
            self.assertEqual(behind_falls(Store(ODD), (ONE, NOUGHT, HALF), many), ("out", 2))

    def test_behind_with_values_near(self):
        chance = random.Random(2)
        for text in SMALL + [THREE, ODD]:
            store, asked = Store(text), Asked(text)
            for many in (0, 1, asked.houses - 1):
                rates = weak_rates(chance, asked)
                check_shown(self, shows_behind_falls, (store, rates, many), behind_falls(store, rates, many),
                            lambda value: self.right_behind(asked, rates, many, value), chance, 100)

    def test_behind_with_others_values(self):
        store = Store(THREE)
        for value, right in (
            (("broken", (0, 1), (ONE, ONE, ONE)), True), (("broken", (0, 1), (NOUGHT, NOUGHT, ONE)), False),
            (("broken", (0, 1), (ONE, ONE, NOUGHT)), True), (("broken", (1, 0), (ONE, ONE, NOUGHT)), False),
            (("broken", (0,), (ONE, ONE, NOUGHT)), False), (("broken", (0, 1, 2), (ONE, ONE, NOUGHT)), False),
            (("broken", [0, 1], (ONE, ONE, NOUGHT)), False), (("broken", (False, 1), (ONE, ONE, NOUGHT)), False),
            (("broken", (1, 2), (ONE, ONE, NOUGHT)), False), (("broken", (1, 2), (NOUGHT, ONE, ONE)), True),
            (("out", 0), False), (("borne", ()), False), (("borne", ((), (), ())), False),
        ):
            self.assertIs(shows_behind_falls(store, (ONE, ONE), 2, value), right, value)

    def test_breaking_and_bearing_beside_strengths_0(self):
        chance = random.Random(3)
        kinds = set()
        for text in TEXTS:
            store, asked = Store(text), Asked(text)
            rates = weak_rates(chance, asked)
            breaking, bearing = breaking_lots(store, rates), bearing_lots(store, rates)
            broken = [lot for lot in all_lots(len(store)) if borne(fallen(store, lot), rates)[0] != "plan"]
            least = tuple(lot for lot in broken if not any(set(other) < set(lot) for other in broken))
            self.assertTrue(alike(breaking, least), (text, rates))
            borne_by = [lot for lot in all_lots(len(store))
                        if borne(fallen(store, [house for house in range(len(store)) if house not in lot]), rates)[0] == "plan"]
            least = tuple(lot for lot in borne_by if not any(set(other) < set(lot) for other in borne_by))
            self.assertTrue(alike(bearing, least), (text, rates))
            self.assertEqual((blocker(len(store), breaking), blocker(len(store), bearing)), (bearing, breaking))
            kinds.add((bool(breaking), breaking == ((),)))
            if breaking == ((),):
                check_raises_told(self, store, rates)
            else:
                most = most_falls(store, rates)
                self.assertTrue(number_below(most, len(store) + 1))
                for many in range(len(store) + 1):
                    self.assertEqual(behind_falls(store, rates, many)[0] == "borne", many <= most)
        self.assertEqual(len(kinds), 3)

    def test_families_by_hand(self):
        store = Store(THREE)
        self.assertEqual((breaking_lots(store, (NOUGHT, NOUGHT)), bearing_lots(store, (NOUGHT, NOUGHT))), ((), ((),)))
        self.assertEqual(most_falls(store, (NOUGHT, NOUGHT)), 3)
        self.assertEqual((breaking_lots(store, ((9, 1), ONE)), bearing_lots(store, ((9, 1), ONE))), (((),), ()))
        self.assertEqual(breaking_lots(Store(ODD), (NOUGHT, NOUGHT, ONE)), ((),))
        self.assertEqual(bearing_lots(Store(ODD), (NOUGHT, NOUGHT, ONE)), ())
        self.assertEqual(bearing_lots(Store(ODD), (ONE, NOUGHT, NOUGHT)), ((0,), (2,)))
        self.assertEqual(bearing_lots(Store(ODD), ((4, 1), NOUGHT, NOUGHT)), ((2,),))
        self.assertEqual(breaking_lots(Store(COPIES), ((2, 1), (2, 1))), ((0, 1, 2), (0, 1, 3), (0, 2, 3), (1, 2, 3)))
        self.assertEqual(most_falls(Store(COPIES), ((2, 1), (2, 1))), 2)
        self.assertEqual(most_falls(Store(COPIES), ((8, 1), NOUGHT)), 0)
        error = self.caught(lambda: most_falls(Store(ODD), (NOUGHT, ONE, HALF)))
        self.assertEqual((type(error), error.value), (NotBorne, ("out", 2)))

    def caught(self, call):
        with self.assertRaises(Exception) as told_error:
            call()
        return told_error.exception

    def test_greatest_behind(self):
        chance = random.Random(4)
        for text in TEXTS[::2] + WIDE[::3]:
            store, asked = Store(text), Asked(text)
            rates = some_rates(chance, asked)
            if rates is None:
                continue
            before = None
            for many in range(asked.houses + 1):
                value = greatest_behind(store, rates, many)
                self.assertTrue(self.right_greatest(asked, rates, many, value), (text, rates, many, value))
                self.assertIs(shows_greatest_behind(store, rates, many, value), True)
                times = read(value[1])
                self.assertTrue(before is None or times <= before)
                if many < asked.houses:
                    let = read(greatest_times(store, rates)[1])
                    self.assertGreaterEqual(let, times * Fraction(asked.houses, asked.houses - many))
                before = times
            self.assertEqual(before, 0)
            self.assertEqual(greatest_behind(store, rates, 0)[1], greatest_times(store, rates)[1])

    def test_greatest_behind_is_the_least_of_all(self):
        chance = random.Random(5)
        for text in TEXTS[::3]:
            store, asked = Store(text), Asked(text)
            rates = some_rates(chance, asked)
            if rates is not None:
                for many in (1, 2):
                    each = [read(greatest_times(fallen(store, lot), rates)[1]) for lot in all_lots(len(store), [many])]
                    self.assertEqual(read(greatest_behind(store, rates, many)[1]), min(each))

    def test_greatest_by_hand(self):
        store = Store(COPIES)
        self.assertEqual([greatest_behind(store, (ONE, ONE), many)[1] for many in range(5)],
                         [(4, 1), (3, 1), (2, 1), (1, 1), (0, 1)])
        self.assertEqual(greatest_behind(store, (ONE, ONE), 4)[2:4], (((),), (0, 1, 2, 3)))
        self.assertEqual(greatest_behind(Store(ODD), (ONE, HALF, NOUGHT), 1)[:3], ("times", NOUGHT, ((), (), ())))
        self.assertEqual(greatest_behind(Store(ODD), (NOUGHT, ONE, HALF), 1), ("out", 2))

    def test_greatest_with_values_near(self):
        chance = random.Random(6)
        for text in SMALL + [THREE, ODD]:
            store, asked = Store(text), Asked(text)
            rates = made_rates(chance, asked.items)
            if any(rate[0] for rate in rates):
                for many in (0, 1, asked.houses):
                    check_shown(self, shows_greatest_behind, (store, rates, many), greatest_behind(store, rates, many),
                                lambda value: self.right_greatest(asked, rates, many, value), chance, 100)

    def test_out_is_told_ahead_of_0_times(self):
        value = ("times", NOUGHT, ((),), (), (ONE, ONE, ONE))
        self.assertIs(shows_greatest_behind(Store(ODD), (NOUGHT, NOUGHT, ONE), 0, value), False)
        self.assertIs(shows_greatest_behind(Store(ODD), (NOUGHT, NOUGHT, ONE), 0, ("out", 2)), True)


def check_raises_told(case, store, rates):
    """That NotBorne is raised with what borne tells."""
    with case.assertRaises(NotBorne) as told_error:
        most_falls(store, rates)
    case.assertTrue(alike(told_error.exception.value, borne(store, rates)))


class Errors(unittest.TestCase):
    def test_sequence(self):
        store, none, few = Store(THREE), (NOUGHT, NOUGHT), (ONE,)
        for call, more in ((behind_falls, ()), (shows_behind_falls, (None,)), (greatest_behind, ()), (shows_greatest_behind, (None,))):
            check_raises(self, BadRates, few, call, store, few, 9, *more)
            check_raises(self, BadNumber, 4, call, store, none, 4, *more)
            check_raises(self, BadNumber, -1, call, store, none, -1, *more)
            check_raises(self, BadNumber, True, call, store, (ONE, ONE), True, *more)
        for many in range(4):
            check_raises(self, NoRates, none, greatest_behind, store, none, many)
            check_raises(self, NoRates, none, shows_greatest_behind, store, none, many, None)

    def test_wide(self):
        seven = Store("items a b\n" + "\n".join(f"house h{LETTERS[at]} 1 a" for at in range(7)))
        for call in (breaking_lots, bearing_lots, most_falls):
            few = (ONE,)
            check_raises(self, BadRates, few, call, seven, few)
            check_raises(self, Wide, 6, call, seven, (ONE, ONE))
            check_raises(self, Wide, 6, call, seven, ((99, 1), NOUGHT))
        self.assertEqual(behind_falls(seven, ((2, 1), NOUGHT), 5)[0], "borne")
        self.assertEqual(behind_falls(seven, ((2, 1), NOUGHT), 6)[0], "broken")
        self.assertEqual(told(greatest_behind(seven, ((2, 1), NOUGHT), 6)[1][0]), ONE)


if __name__ == "__main__":
    unittest.main()
