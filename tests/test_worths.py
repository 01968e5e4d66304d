"""Section 12: what strength is worth."""

import random
import unittest
from fractions import Fraction

from sumshelves.errors import BadHouse, BadRates, NoRates, Same
from sumshelves.plans import greatest_times
from sumshelves.stores import Store
from sumshelves.worths import house_worth, shows_worth_line, two_worths, wanted, worth_line
from tests.asking import (
    HALF, NOUGHT, ONE, Asked, are_fractions, check_shown, made, made_rates, read, shown, some_rates, texts_of_kinds, told,
    times_rates,
)
from tests.plain import alike, check_raises, made_text

THREE = "items a b\nhouse one 2 a\nhouse two 2 b\nhouse three 1 a+b"
ODD = "items a b c\nhouse p 3 a\nhouse q 0 a+b\nhouse r 9 a"
# Stores in whose lines there are more bends.
BENT = [made_text(random.Random(at), 3 + at % 2, 6 + at % 3, 2) for at in range(8)]
TEXTS = texts_of_kinds(91, often=1) + [THREE, ODD] + BENT
SMALL = texts_of_kinds(92, 3, 5, 1)


class Case(unittest.TestCase):
    def times(self, store, rates):
        return read(greatest_times(store, rates)[1])

    def is_alone(self, asked, rates, house):
        return all((house,) in family for family, rate in zip(asked.families, rates) if rate[0])

    def right(self, asked, rates, house, value):
        """Whether this is the whole line, by adding alone."""
        if not shown(value, "line", 4):
            return asked.is_out(rates, value)
        _, corners, plans, prices = value
        if asked.out(rates) is not None or not all(type(part) is tuple for part in (corners, plans, prices)):
            return False
        if not len(corners) == len(plans) == len(prices) > 0 or not all(are_fractions(corner, 2) for corner in corners):
            return False
        places = [read(corner[0]) for corner in corners]
        if places[0] != 0 or any(place >= following for place, following in zip(places, places[1:])):
            return False
        for (_, reach), place, plan, row in zip(corners, places, plans, prices):
            there = asked.with_strength(house, place)
            if not there.bears(times_rates(rates, reach), plan) or not there.even(rates, row, read(reach)):
                return False
        for row, following, (_, reach) in zip(prices, places[1:], corners[1:]):
            if asked.with_strength(house, following).worth(row) != read(reach):
                return False
        slopes = [read(row[house]) for row in prices]
        if any(slope <= flatter for slope, flatter in zip(slopes, slopes[1:])):
            return False
        steep = 1 / sum(read(rate) for rate in rates)
        return slopes[-1] == (steep if self.is_alone(asked, rates, house) else 0)

    def line_at(self, value, number):
        """The reach at a strength, and how steep it is directly ahead of it and behind it, by the told line."""
        _, corners, _, prices = value
        at = max(k for k, (place, _) in enumerate(corners) if read(place) <= number)
        return read(corners[at][1]) + (number - read(corners[at][0])) * self.slope(value, at)

    def slope(self, value, at):
        """How steep the line is behind a corner: by two corners, or for the last one by its prices."""
        _, corners, _, prices = value
        if at + 1 < len(corners):
            rise = read(corners[at + 1][1]) - read(corners[at][1])
            return rise / (read(corners[at + 1][0]) - read(corners[at][0]))
        return read(prices[at][self.house])


class Lines(Case):
    def test_beside_greatest_times_at_each_strength(self):
        chance = random.Random(1)
        bent = 0
        for text in TEXTS:
            store, asked = Store(text), Asked(text)
            rates = some_rates(chance, asked)
            if rates is None:
                continue
            for house in range(asked.houses):
                self.house = house
                value = worth_line(store, rates, house)
                self.assertTrue(self.right(asked, rates, house, value), (text, rates, house, value))
                self.assertIs(shows_worth_line(store, rates, house, value), True)
                for strength in range(10):
                    reach = self.times(store.with_strength(house, strength), rates)
                    self.assertEqual(self.line_at(value, strength), reach, (text, rates, house, strength))
                bent += len(value[1]) > 2
        self.assertGreater(bent, 10)

    def test_corners_where_it_bends_and_no_others(self):
        chance = random.Random(2)
        for text in TEXTS[::2]:
            store, asked = Store(text), Asked(text)
            rates = some_rates(chance, asked)
            if rates is None:
                continue
            for house in range(asked.houses):
                self.house = house
                value = worth_line(store, rates, house)
                slopes = [self.slope(value, at) for at in range(len(value[1]))]
                self.assertEqual(slopes, sorted(set(slopes), reverse=True))
                self.assertEqual(slopes, [read(row[house]) for row in value[3]])
                # Twice the strengths and twice the x: the same line, twice as great.
                for place, reach in value[1]:
                    if read(place).denominator == 1 and place[0] <= 9:
                        self.assertEqual(self.times(store.with_strength(house, place[0]), rates), read(reach))

    def test_by_hand(self):
        store = Store(THREE)
        self.assertEqual(worth_line(store, (ONE, NOUGHT), 0)[1:], (((NOUGHT, ONE),), (((0, (1, 2), ONE),),), ((ONE, NOUGHT, ONE),)))
        self.assertEqual(worth_line(store, (NOUGHT, ONE), 0)[1], ((NOUGHT, (2, 1)), (ONE, (3, 1))))
        self.assertEqual(worth_line(store, ((2, 1), NOUGHT), 2)[1], ((NOUGHT, ONE), ((2, 1), (2, 1))))
        self.assertEqual(worth_line(Store(ODD), (NOUGHT, ONE, HALF), 1), ("out", 2))
        dead = worth_line(Store(ODD), (ONE, ONE, NOUGHT), 0)
        self.assertEqual(dead[1:3], (((NOUGHT, NOUGHT),), ((),)))
        self.assertEqual(worth_line(Store(ODD), (NOUGHT, ONE, NOUGHT), 1)[1], ((NOUGHT, NOUGHT), ((12, 1), (12, 1))))

    def test_had_of_this_house_alone(self):
        store = Store("items a b\nhouse p 2 a b\nhouse q 1 a\nhouse r 3 b")
        value = worth_line(store, (ONE, (2, 1)), 0)
        self.assertTrue(self.right(Asked(store.text), (ONE, (2, 1)), 0, value))
        self.assertEqual(value[3][-1][0], (1, 3))
        self.assertEqual(house_worth(store.with_strength(0, 9), (ONE, (2, 1)), 0), ("worth", (1, 3), (1, 3)))
        # What is not asked for does not count, neither here nor there.
        beside = Store("items a b\nhouse p 2 a\nhouse q 1 a\nhouse r 3 b")
        self.assertEqual(worth_line(beside, (ONE, NOUGHT), 0)[1:], (((NOUGHT, ONE),), (((0, (1,), ONE),),), ((ONE, ONE, NOUGHT),)))
        self.assertEqual(worth_line(beside, (ONE, NOUGHT), 2)[1::2], (((NOUGHT, (3, 1)),), ((ONE, ONE, NOUGHT),)))
        only = Store("items a b\nhouse p 0 a b\nhouse q 1 a+b")
        self.assertEqual(worth_line(only, (ONE, (2, 1)), 0)[1:], (((NOUGHT, NOUGHT),), ((),), (((1, 3), NOUGHT),)))
        self.assertEqual(house_worth(only, (ONE, NOUGHT), 0), ("worth", None, ONE))

    def test_copies(self):
        # With copies alone the reach is the least sum of strengths by rate.
        chance = random.Random(3)
        for _ in range(30):
            rows = [(chance.randint(0, 9), chance.choice("abc")) for _ in range(chance.randint(3, 8))]
            store, asked = Store(made("abc", rows)), Asked(made("abc", rows))
            rates = some_rates(chance, asked)
            house = chance.randrange(len(rows))
            self.house = house
            value = worth_line(store, rates, house)
            mine = "abc".index(rows[house][1])
            sums = [sum(strength for at, (strength, name) in enumerate(rows) if name == "abc"[item] and at != house) for item in range(3)]
            most = [sums[item] / read(rate) for item, rate in enumerate(rates) if rate[0] and item != mine]
            for number in (0, 1, Fraction(7, 3), 5, 40):
                mean = [(sums[mine] + number) / read(rates[mine])] if rates[mine][0] else []
                self.assertEqual(self.line_at(value, number), min(most + mean))

    def test_shown_with_values_near(self):
        chance = random.Random(4)
        for text in SMALL + [THREE, ODD]:
            store, asked = Store(text), Asked(text)
            rates, house = made_rates(chance, asked.items), chance.randrange(asked.houses)
            if any(rate[0] for rate in rates):
                check_shown(self, shows_worth_line, (store, rates, house), worth_line(store, rates, house),
                            lambda value: self.right(asked, rates, house, value), chance, 200)

    def test_shown_with_others_values(self):
        store, rates = Store(THREE), (ONE, ONE)
        line, corners, plans, prices = worth_line(store, rates, 0)
        two = ((2, 1), (2, 1))
        between = ((0, (0,), (2, 1)), (1, (1,), (2, 1)))
        for value, right in (
            ((line, corners, plans, prices), True),
            ((line, corners, plans, (prices[0], (NOUGHT, ONE, ONE))), True),
            ((line, corners[:1], plans[:1], prices[:1]), False),
            ((line, corners[1:], plans[1:], prices[1:]), False),
            ((line, corners[:1] + (two,) + corners[1:], plans[:1] + (between,) + plans[1:], prices[:1] + prices), False),
            ((line, corners + (((9, 1), (3, 1)),), plans + plans[1:], prices + prices[1:]), False),
            ((line, corners[:1] + (((4, 1), (2, 1)),), plans[:1] + (between,), prices), False),
            ((line, corners[:1] + corners, plans[:1] + plans, ((ONE, NOUGHT, ONE),) + prices), False),
            ((line, (), (), ()), False), ((line, corners, plans, prices[::-1]), False), ((line, corners, plans), False),
            ((line, corners, list(plans), prices), False), (("lines", corners, plans, prices), False), (("out", 0), False),
        ):
            self.assertIs(shows_worth_line(store, rates, 0, value), right, value)
            self.assertIs(self.right(Asked(THREE), rates, 0, value), right, value)
        self.assertIs(shows_worth_line(Store(ODD), (NOUGHT, ONE, HALF), 0, ("out", 2)), True)
        self.assertIs(shows_worth_line(Store(ODD), (NOUGHT, NOUGHT, HALF), 0, ("line", ((NOUGHT, NOUGHT),), ((),), ((NOUGHT,) * 3,))), False)


class Worths(Case):
    def test_house_worth(self):
        chance = random.Random(5)
        unlike = none = 0
        for text in TEXTS:
            store, asked = Store(text), Asked(text)
            rates = some_rates(chance, asked)
            if rates is None:
                continue
            for house in range(asked.houses):
                word, less, more = house_worth(store, rates, house)
                self.assertEqual(word, "worth")
                strength = store.strengths[house]
                self.house = house
                line = worth_line(store, rates, house)
                small = Fraction(1, 10 ** 9)
                here = self.line_at(line, strength)
                self.assertTrue(alike(more, told((self.line_at(line, strength + small) - here) / small)))
                if strength == 0:
                    self.assertIs(less, None)
                    none += 1
                    continue
                self.assertTrue(alike(less, told((here - self.line_at(line, strength - small)) / small)))
                self.assertEqual(less != more, told(strength) in [corner[0] for corner in line[1]])
                unlike += less != more
        self.assertGreater(min(unlike, none), 4)

    def test_house_worth_by_hand(self):
        store, rates = Store(THREE), (ONE, ONE)
        self.assertEqual(house_worth(store.with_strength(0, 0), rates, 0), ("worth", None, HALF))
        self.assertEqual(house_worth(store.with_strength(0, 3), rates, 0), ("worth", HALF, HALF))
        self.assertEqual(house_worth(store.with_strength(0, 5), rates, 0), ("worth", NOUGHT, NOUGHT))
        self.assertEqual(house_worth(Store(ODD), (NOUGHT, ONE, ONE), 0), ("out", 2))

    def test_two_worths(self):
        chance = random.Random(6)
        for text in TEXTS:
            store, asked = Store(text), Asked(text)
            rates = some_rates(chance, asked)
            if rates is None:
                continue
            for _ in range(3):
                house, beside = chance.sample(range(asked.houses), 2)
                value = two_worths(store, rates, house, beside)
                word, mine, its, both = value
                self.assertEqual((word, type(value)), ("worths", tuple))
                self.assertTrue(all(are_fractions((part,), 1) for part in value[1:]))
                self.assertEqual(two_worths(store, rates, beside, house), ("worths", its, mine, both))
                self.assertGreaterEqual(read(both), max(read(mine), read(its)))
                if max(store.strengths[house], store.strengths[beside]) < 9:
                    now = self.times(store, rates)
                    more = store.with_strength(house, store.strengths[house] + 1)
                    also = store.with_strength(beside, store.strengths[beside] + 1)
                    twice = more.with_strength(beside, store.strengths[beside] + 1)
                    self.assertEqual([read(part) for part in value[1:]], [self.times(one, rates) - now for one in (more, also, twice)])
                else:
                    self.house = house
                    line, strength = worth_line(store, rates, house), store.strengths[house]
                    self.assertEqual(read(mine), self.line_at(line, strength + 1) - self.line_at(line, strength))

    def test_two_worths_by_hand(self):
        stand_in = Store("items a b\nhouse p 1 a\nhouse q 1 a\nhouse r 3 b")
        self.assertEqual(two_worths(stand_in, (ONE, ONE), 0, 1), ("worths", ONE, ONE, ONE))
        helping = Store("items a b\nhouse p 1 a\nhouse q 1 b")
        self.assertEqual(two_worths(helping, (ONE, ONE), 0, 1), ("worths", NOUGHT, NOUGHT, ONE))
        nine = Store("items a b\nhouse p 9 a\nhouse q 9 b")
        self.assertEqual(two_worths(nine, ((3, 1), (3, 1)), 1, 0), ("worths", NOUGHT, NOUGHT, (1, 3)))
        self.assertEqual(two_worths(Store(ODD), (ONE, NOUGHT, HALF), 1, 0), ("out", 2))

    def test_wanted(self):
        chance = random.Random(7)
        less = 0
        for text in TEXTS:
            store, asked = Store(text), Asked(text)
            rates = some_rates(chance, asked)
            if rates is None:
                continue
            word, strengths = wanted(store, rates)
            self.assertEqual(word, "wanted")
            self.assertTrue(are_fractions(strengths, asked.houses))
            for house, least in enumerate(strengths):
                self.house = house
                line, number, full = worth_line(store, rates, house), read(least), store.strengths[house]
                self.assertLessEqual(number, full)
                self.assertEqual(self.line_at(line, number), self.line_at(line, full))
                if number > 0:
                    self.assertLess(self.line_at(line, number - Fraction(1, 10 ** 6)), self.line_at(line, full))
                less += number < full
        self.assertGreater(less, 20)

    def test_wanted_by_hand(self):
        store = Store("items a b\nhouse p 9 a\nhouse q 5 b\nhouse r 9 a")
        self.assertEqual(wanted(store, (ONE, ONE)), ("wanted", (NOUGHT, (5, 1), NOUGHT)))
        self.assertEqual(wanted(store, ((3, 1), ONE)), ("wanted", ((6, 1), (5, 1), (6, 1))))
        self.assertEqual(wanted(store, (ONE, NOUGHT)), ("wanted", ((9, 1), NOUGHT, (9, 1))))
        self.assertEqual(wanted(store, ((7, 2), (3, 1))), ("wanted", (NOUGHT, (5, 1), NOUGHT)))
        self.assertEqual(wanted(Store(ODD), (ONE, ONE, NOUGHT)), ("wanted", (NOUGHT, NOUGHT, NOUGHT)))
        self.assertEqual(wanted(Store(ODD), (ONE, ONE, ONE)), ("out", 2))


class Errors(Case):
    def test_in_sequence(self):
        store, odd, none = Store(THREE), Store(ODD), (NOUGHT, NOUGHT)
        out = (NOUGHT, NOUGHT, ONE)
        calls = [(worth_line, ()), (house_worth, ()), (shows_worth_line, (None,)), (two_worths, (None,))]
        for call, more in calls:
            for rates in ((ONE,), None, [ONE, ONE], (ONE, (2, 2))):
                check_raises(self, BadRates, rates, call, store, rates, 9, *more)
            check_raises(self, NoRates, none, call, store, none, 9, *more)
            for house in (3, -1, True, None, (0,)):
                check_raises(self, BadHouse, house, call, store, (ONE, ONE), house, *more)
                check_raises(self, BadHouse, house, call, odd, out, house, *more)
        check_raises(self, BadHouse, 3, two_worths, store, (ONE, ONE), 0, 3)
        check_raises(self, BadHouse, False, two_worths, store, (ONE, ONE), 0, False)
        check_raises(self, Same, 2, two_worths, store, (ONE, ONE), 2, 2)
        check_raises(self, Same, 2, two_worths, odd, out, 2, 2)
        check_raises(self, NoRates, none, two_worths, store, none, 2, 2)
        check_raises(self, NoRates, none, wanted, store, none)
        few = (ONE,)
        check_raises(self, BadRates, few, wanted, store, few)
        self.assertEqual([worth_line(odd, out, 0), house_worth(odd, out, 1), two_worths(odd, out, 0, 1), wanted(odd, out)], [("out", 2)] * 4)


if __name__ == "__main__":
    unittest.main()
