"""Section 6: plans and prices."""

import random
import unittest
from fractions import Fraction

from sumshelves import plans
from sumshelves.errors import BadPlan, NoRates, Out
from sumshelves.plans import (
    bears, borne, cheapest_lot, cost_and_worth, greatest, greatest_times, house_loads, shows_borne, shows_greatest,
    shows_greatest_times, shows_slack, slack,
)
from sumshelves.stores import Store
from tests.asking import (
    HALF, NOUGHT, ONE, Asked, check_shown, made, made_rates, read, shown, some_rates, texts_of_kinds, times_rates, told,
)
from tests.plain import alike, any_values, check_raises, number_below

TEXTS = texts_of_kinds(21)
SMALL = texts_of_kinds(22, 3, 4, 1)
BOTH = "items a b\nhouse one 2 a\nhouse two 2 b\nhouse three 1 a+b"
# c is had of no lot, b just through a house of strength 0.
ODD = "items a b c\nhouse p 3 a\nhouse q 0 a+b\nhouse r 9 a"


def priced(chance, many):
    return tuple(told(Fraction(chance.randint(0, 6), chance.randint(1, 3))) for _ in range(many))


class Case(unittest.TestCase):
    def right_slack(self, asked, rates, house, value):
        if not shown(value, "slack", 4):
            return asked.right_unborne(rates, value)
        _, number, plan, prices = value
        strength = asked.strengths[house]
        if not number_below(number, int(strength) + 1):
            return False
        if not asked.with_strength(house, strength - number).bears(rates, plan):
            return False
        if number == strength:
            return prices is None
        return asked.with_strength(house, strength - number - 1).bars(rates, prices)


class Lots(Case):
    def test_cheapest_lot(self):
        chance = random.Random(1)
        for text in TEXTS:
            store, asked = Store(text), Asked(text)
            for item in range(asked.items):
                prices = priced(chance, asked.houses)
                if not asked.families[item]:
                    check_raises(self, Out, item, cheapest_lot, store, item, prices)
                    continue
                price, lot = cheapest_lot(store, item, prices)
                self.assertIn(lot, asked.families[item])
                self.assertTrue(alike(price, told(asked.price(asked.families[item], prices))))
                self.assertEqual(sum(read(prices[house]) for house in lot), read(price))

    def test_cheapest_by_hand(self):
        store = Store(BOTH)
        self.assertEqual(cheapest_lot(store, 0, (ONE, HALF, told(Fraction(1, 3)))), ((5, 6), (1, 2)))
        self.assertEqual(cheapest_lot(store, 1, (ONE, HALF, NOUGHT)), (HALF, (1,)))
        self.assertEqual(cheapest_lot(store, 0, (NOUGHT, NOUGHT, NOUGHT))[0], NOUGHT)

    def test_loads(self):
        store = Store(BOTH)
        rows = ((0, (0,), (1, 3)), (0, (1, 2), (1, 6)), (1, (0, 2), (5, 2)))
        self.assertTrue(alike(house_loads(store, rows), ((17, 6), (1, 6), (8, 3))))
        self.assertTrue(alike(house_loads(store, ()), (NOUGHT, NOUGHT, NOUGHT)))
        for text in TEXTS:
            asked = Asked(text)
            told_plan = self.some_plan(random.Random(text), asked)
            expected = tuple(told(load) for load in asked.loads(told_plan))
            self.assertTrue(alike(house_loads(Store(text), told_plan), expected))

    def some_plan(self, chance, asked):
        """Any plan, whatever the strengths."""
        rows = [(item, lot, told(Fraction(chance.randint(1, 9), chance.randint(1, 4))))
                for item, family in enumerate(asked.families) for lot in family if chance.randint(0, 2)]
        return tuple(sorted(rows))

    def test_bears(self):
        chance = random.Random(2)
        words = {"bears": 0, "short": 0, "over": 0}
        for text in TEXTS * 3:
            store, asked = Store(text), Asked(text)
            rows = self.some_plan(chance, asked)
            rates = tuple(told(number) for number in asked.sums(rows))
            if chance.randint(0, 1):
                rows = tuple((item, lot, told(read(share) / 9)) for item, lot, share in rows)
                rates = times_rates(rates, (1, 9))
            if chance.randint(0, 3) == 0:
                rates = made_rates(chance, asked.items)
            value = bears(store, rates, rows)
            words[value[0]] += 1
            self.assertTrue(alike(value, self.plain_bears(asked, rates, rows)), (text, rates, rows))
        self.assertGreater(min(words.values()), 5, words)

    def plain_bears(self, asked, rates, rows):
        for item, come in enumerate(asked.sums(rows)):
            if come != read(rates[item]):
                return "short", item, told(come)
        for house, load in enumerate(asked.loads(rows)):
            if load > asked.strengths[house]:
                return "over", house, told(load)
        return ("bears",)

    def test_bears_at_the_edge(self):
        store = Store(BOTH)
        for share, value in (((2, 1), ("bears",)), ((199, 100), ("bears",)), ((201, 100), ("over", 0, (201, 100)))):
            self.assertEqual(bears(store, (share, NOUGHT), ((0, (0,), share),)), value)
        self.assertEqual(bears(store, (NOUGHT, NOUGHT), ()), ("bears",))
        self.assertEqual(bears(store, (ONE, ONE), ((1, (1,), (9, 1)),)), ("short", 0, NOUGHT))
        self.assertEqual(bears(Store(ODD), (NOUGHT, NOUGHT, ONE), ()), ("short", 2, NOUGHT))
        self.assertEqual(bears(Store(ODD), (NOUGHT, ONE, NOUGHT), ((1, (0, 1), ONE),)), ("over", 1, ONE))

    def test_cost_and_worth(self):
        chance = random.Random(3)
        for text in TEXTS:
            store, asked = Store(text), Asked(text)
            rates, prices = made_rates(chance, asked.items), priced(chance, asked.houses)
            value = cost_and_worth(store, rates, prices)
            if asked.out(rates) is not None:
                self.assertTrue(alike(value, ("out", asked.out(rates))))
            else:
                self.assertTrue(alike(value, ("cost", told(asked.cost(rates, prices)), told(asked.worth(prices)))))


class Borne(Case):
    def test_just_within_on_and_beyond(self):
        chance = random.Random(4)
        seen = {"plan": 0, "prices": 0}
        for text in TEXTS:
            store, asked = Store(text), Asked(text)
            rates = some_rates(chance, asked)
            if rates is None:
                continue
            times = greatest_times(store, rates)[1]
            for by, word in ((Fraction(999, 1000), "plan"), (1, "plan"), (Fraction(1001, 1000), "prices")):
                if times[0] == 0:
                    by, word = 0, "plan"
                edge = times_rates(rates, told(read(times) * by))
                value = borne(store, edge)
                self.assertEqual(value[0], word)
                self.assertTrue(asked.right_borne(edge, value), (text, edge, value))
                self.assertIs(shows_borne(store, edge, value), True)
                seen[word] += 1
            if times[0] == 0:
                self.assertEqual(borne(store, rates)[0], "prices")
        self.assertGreater(min(seen.values()), 20)

    def test_each_answer_by_adding_alone(self):
        chance = random.Random(5)
        seen = {}
        for text in TEXTS * 2:
            store, asked = Store(text), Asked(text)
            rates = made_rates(chance, asked.items)
            value = borne(store, rates)
            seen[value[0]] = seen.get(value[0], 0) + 1
            self.assertTrue(asked.right_borne(rates, value), (text, rates, value))
            self.assertTrue(alike(value, borne(Store(text), rates)))
        self.assertGreater(min(seen[word] for word in ("plan", "prices", "out")), 5)

    def test_by_hand(self):
        store = Store(ODD)
        self.assertEqual(borne(store, (NOUGHT, ONE, HALF)), ("out", 2))
        self.assertEqual(borne(store, ((12, 1), NOUGHT, NOUGHT))[0], "plan")
        self.assertEqual(borne(store, ((12000001, 1000000), NOUGHT, NOUGHT))[0], "prices")
        self.assertEqual(borne(store, (NOUGHT, (1, 999999999), NOUGHT))[0], "prices")
        self.assertEqual(borne(store, (NOUGHT, NOUGHT, NOUGHT)), ("plan", ()))
        copies = Store(made("ab", [(2, "a"), (3, "a"), (4, "b"), (0, "b")]))
        self.assertEqual(borne(copies, ((5, 1), (4, 1)))[0], "plan")
        self.assertEqual(borne(copies, ((5, 1), (41, 10)))[0], "prices")

    def test_shown_with_values_near(self):
        chance = random.Random(6)
        for text in SMALL + [BOTH, ODD]:
            store, asked = Store(text), Asked(text)
            for rates in (made_rates(chance, asked.items), tuple([NOUGHT] * asked.items)):
                check_shown(self, shows_borne, (store, rates), borne(store, rates),
                            lambda value: asked.right_borne(rates, value), chance)

    def test_shown_with_others_values(self):
        store, rates = Store(BOTH), ((1, 1), (1, 1))
        half = ((0, (0,), HALF), (0, (1, 2), HALF), (1, (0, 2), HALF), (1, (1,), HALF))
        for value, right in (
            (("plan", half), True), (("plan", half[::-1]), False), (("plan", list(half)), False), (("plan", half[1:]), False),
            (("plan", ((0, (0,), ONE), (1, (1,), ONE))), True), (("plan", ((0, (0,), ONE), (1, (0, 2), ONE))), True),
            (("plan", ((False, (0,), ONE), (1, (1,), ONE))), False), (("plan", ((0, (False,), ONE), (1, (1,), ONE))), False),
            (("plan", ((0, (0,), (True, 1)), (1, (1,), ONE))), False), (("plan", ((0, (0,), (2, 2)), (1, (1,), ONE))), False),
            (("plan", ((0, (0,), ONE), (1, (1,), ONE), (1, (0, 2), NOUGHT))), False), (("prices", (ONE, ONE, ONE)), False),
            (("plan", ((0, (0,), HALF), (0, (0,), HALF), (1, (1,), ONE))), False), (("plan",), False), (half, False),
            (("plan", ((0, (0, 1), ONE), (1, (1,), ONE))), False), ("plan", False), (None, False), (("out", 0), False),
        ):
            self.assertIs(shows_borne(store, rates, value), right, value)
        rates = ((3, 1), (2, 1))
        for value, right in (
            (("prices", (ONE, ONE, NOUGHT)), True), (("prices", ((9, 1), (9, 1), (0, 1))), True),
            (("prices", ((10, 1), (10, 1), (1, 1))), True), (("prices", (ONE, ONE, (1, 1))), False),
            (("prices", ((True, 1), ONE, NOUGHT)), False), (("prices", [ONE, ONE, NOUGHT]), False),
            (("prices", (ONE, ONE)), False), (("prices", ((2, 2), ONE, NOUGHT)), False), (("prices", ((1, 1), (1, 1), 0)), False),
            (("prices", (ONE, ONE, (-1, 1))), False), (("prices", (ONE, ONE, (0, 2))), False),
            (("prices", (NOUGHT, NOUGHT, NOUGHT)), False), (("price", (ONE, ONE, NOUGHT)), False),
        ):
            self.assertIs(shows_borne(store, rates, value), right, value)
        out = Store(ODD)
        for value, right in ((("out", 2), True), (("out", 1), False), (("out", 2, 0), False), (["out", 2], False),
                             (("prices", (ONE, ONE, ONE)), False), (("plan", ()), False)):
            self.assertIs(shows_borne(out, (NOUGHT, (9, 1), ONE), value), right, value)
        first = Store("items a b\nhouse p 1 a+b\nhouse q 1 a+b")
        for value in (("out", False), ("out", 1), ("out", "0"), ("out", None), ("out", (0,))):
            self.assertIs(shows_borne(first, (ONE, ONE), value), False)
        self.assertIs(shows_borne(first, (ONE, ONE), ("out", 0)), True)
        self.assertIs(shows_borne(first, (NOUGHT, ONE), ("out", True)), False)
        self.assertIs(shows_borne(first, (NOUGHT, ONE), ("out", 1)), True)


class Greatest(Case):
    def test_plans_and_prices_come_to_the_same(self):
        chance = random.Random(7)
        for text in TEXTS:
            store, asked = Store(text), Asked(text)
            for item in range(asked.items):
                value = greatest(store, item)
                self.assertTrue(asked.right_times(asked.alone(item), value, "greatest"), (text, item, value))
                self.assertIs(shows_greatest(store, item, value), True)
            for rates in (made_rates(chance, asked.items), some_rates(chance, asked)):
                if rates is not None and any(rate[0] for rate in rates):
                    value = greatest_times(store, rates)
                    self.assertTrue(asked.right_times(rates, value), (text, rates, value))
                    self.assertIs(shows_greatest_times(store, rates, value), True)

    def test_one_item_alone_as_many_times_as_its_greatest(self):
        for text in TEXTS:
            store, asked = Store(text), Asked(text)
            for item in range(asked.items):
                if asked.families[item]:
                    twice = greatest_times(store, asked.alone(item, (2, 1)))
                    self.assertEqual(read(twice[1]) * 2, read(greatest(store, item)[1]))

    def test_by_hand(self):
        store = Store(ODD)
        self.assertEqual(greatest(store, 2), ("out", 2))
        self.assertEqual(greatest(store, 0)[:3], ("greatest", (12, 1), ((0, (0,), (3, 1)), (0, (2,), (9, 1)))))
        self.assertEqual(greatest(store, 1)[:3], ("greatest", NOUGHT, ()))
        self.assertEqual(greatest_times(store, ((5, 1), (1, 7), NOUGHT))[:3], ("times", NOUGHT, ()))
        self.assertEqual(greatest_times(store, ((5, 1), NOUGHT, (1, 7))), ("out", 2))
        self.assertEqual(greatest_times(store, ((5, 1), NOUGHT, NOUGHT))[1], (12, 5))
        planes = Store("items a b c d\nhouse p 1 a+b\nhouse q 1 a+c\nhouse r 1 a+d\nhouse s 1 a+b+c\n"
                       "house t 1 a+b+d\nhouse u 1 a+c+d\nhouse v 1 a+b+c+d")
        self.assertEqual(greatest(planes, 0)[1], (7, 3))

    def test_shown_with_values_near(self):
        chance = random.Random(8)
        for text in SMALL + [BOTH, ODD]:
            store, asked = Store(text), Asked(text)
            item = chance.randrange(asked.items)
            check_shown(self, shows_greatest, (store, item), greatest(store, item),
                        lambda value: asked.right_times(asked.alone(item), value, "greatest"), chance, 250)
            rates = made_rates(chance, asked.items)
            if any(rate[0] for rate in rates):
                check_shown(self, shows_greatest_times, (store, rates), greatest_times(store, rates),
                            lambda value: asked.right_times(rates, value), chance, 250)

    def test_shown_with_others_values(self):
        store = Store(BOTH)
        plan = ((0, (0,), (2, 1)), (0, (1, 2), ONE))
        for prices, right in (((ONE, ONE, NOUGHT), False), ((ONE, NOUGHT, ONE), True), ((ONE, HALF, HALF), False),
                              (((2, 1), NOUGHT, (2, 1)), False)):
            self.assertIs(shows_greatest(store, 0, ("greatest", (3, 1), plan, prices)), right, prices)
        self.assertIs(shows_greatest(store, 0, ("greatest", (2, 1), ((0, (0,), (2, 1)),), (ONE, NOUGHT, ONE))), False)
        self.assertIs(shows_greatest(store, 0, ("times", (3, 1), plan, (ONE, NOUGHT, ONE))), False)
        # 0 times nothing is borne of rates that are out, and of these nothing else is told.
        odd = Store(ODD)
        for value in (("times", NOUGHT, (), (NOUGHT, ONE, NOUGHT)), ("times", NOUGHT, (), (NOUGHT, NOUGHT, NOUGHT))):
            self.assertIs(shows_greatest_times(odd, (NOUGHT, NOUGHT, ONE), value), False)
        dead = ("times", NOUGHT, (), (NOUGHT, ONE, NOUGHT))
        self.assertIs(shows_greatest_times(odd, (NOUGHT, ONE, ONE), dead), False)
        self.assertIs(shows_greatest_times(odd, (NOUGHT, ONE, NOUGHT), dead), True)
        self.assertIs(shows_greatest(odd, 2, ("greatest", NOUGHT, (), (NOUGHT, ONE, NOUGHT))), False)
        self.assertIs(shows_greatest(odd, 1, ("greatest", NOUGHT, (), (NOUGHT, ONE, NOUGHT))), True)
        self.assertIs(shows_greatest(odd, 1, ("greatest", NOUGHT, (), (NOUGHT, HALF, NOUGHT))), False)
        self.assertIs(shows_greatest(odd, 1, ("greatest", NOUGHT, (), (HALF, HALF, NOUGHT))), False)

    def test_what_was_told_is_handed_in_again(self):
        store = Store(BOTH)
        rates = ((987654321, 123456789), (999999999, 999999998))
        rates = tuple(told(read(rate)) for rate in rates)
        for _ in range(6):
            value = greatest_times(store, rates)
            self.assertTrue(Asked(BOTH).right_times(rates, value))
            self.assertIs(shows_greatest_times(store, rates, value), True)
            prices = value[3]
            self.assertEqual(cost_and_worth(store, rates, prices), ("cost", ONE, value[1]))
            self.assertEqual(cheapest_lot(store, 0, prices)[0], told(Asked(BOTH).price(Asked(BOTH).families[0], prices)))
            rates = tuple(told(read(rate) * read(rate) + read(value[1]) + read(price)) for rate, price in zip(rates, prices))
        self.assertGreater(rates[0][1], 10 ** 200)


class Slack(Case):
    def test_beside_stores_of_lesser_strengths(self):
        chance = random.Random(9)
        seen = 0
        for text in TEXTS:
            store, asked = Store(text), Asked(text)
            rates = made_rates(chance, asked.items, 3)
            for house in range(asked.houses):
                value = slack(store, rates, house)
                self.assertTrue(self.right_slack(asked, rates, house, value), (text, rates, house, value))
                self.assertIs(shows_slack(store, rates, house, value), True)
                if value[0] != "slack":
                    self.assertTrue(alike(value, borne(store, rates)))
                    continue
                seen += value[1] > 0
                for strength in range(store.strengths[house] + 1):
                    word = borne(store.with_strength(house, strength), rates)[0]
                    self.assertEqual(word == "plan", strength >= store.strengths[house] - value[1])
        self.assertGreater(seen, 20)

    def test_by_hand(self):
        store = Store(BOTH)
        self.assertEqual(slack(store, (NOUGHT, NOUGHT), 1), ("slack", 2, (), None))
        self.assertEqual(slack(store, (ONE, ONE), 2)[1], 1)
        self.assertEqual(slack(store, ((5, 2), HALF), 0)[1], 0)
        self.assertEqual(slack(store, ((5, 4), HALF), 0)[1], 1)
        self.assertEqual(slack(store, ((3, 1), (2, 1)), 0)[0], "prices")
        self.assertEqual(slack(Store(ODD), (NOUGHT, NOUGHT, ONE), 0), ("out", 2))
        self.assertEqual(slack(Store(ODD), (ONE, NOUGHT, NOUGHT), 1), ("slack", 0, ((0, (0,), ONE),), None))

    def test_shown_with_values_near(self):
        chance = random.Random(10)
        for text in SMALL + [BOTH, ODD]:
            store, asked = Store(text), Asked(text)
            rates, house = made_rates(chance, asked.items, 2), chance.randrange(asked.houses)
            check_shown(self, shows_slack, (store, rates, house), slack(store, rates, house),
                        lambda value: self.right_slack(asked, rates, house, value), chance, 250)

    def test_no_less_than_0_is_told(self):
        store, rates, prices = Store(BOTH), ((3, 1), (3, 2)), (ONE, ONE, NOUGHT)
        plan = ((0, (0,), (5, 2)), (0, (1, 2), HALF), (1, (1,), (3, 2)))
        self.assertIs(shows_slack(store, rates, 0, ("prices", prices)), True)
        self.assertIs(shows_slack(store, rates, 0, ("slack", -1, plan, prices)), False)
        self.assertIs(shows_slack(store.with_strength(0, 3), rates, 0, ("slack", 0, plan, prices)), True)
        self.assertIs(shows_slack(store, (NOUGHT, NOUGHT), 0, ("slack", 3, (), None)), False)
        self.assertIs(shows_slack(store, (NOUGHT, NOUGHT), 0, ("slack", 2, (), None)), True)

    def test_plans_are_not_shown_for_rates_that_are_borne(self):
        store, rates = Store(BOTH), (ONE, ONE)
        self.assertIs(shows_borne(store, rates, borne(store, rates)), True)
        self.assertIs(shows_slack(store, rates, 0, borne(store, rates)), False)


class Errors(Case):
    def test_bad_plans(self):
        asked, store = Asked(BOTH), Store(BOTH)
        values = any_values() + [
            ((0, (0,), NOUGHT),), ((0, (0, 1), ONE),), ((0, (1,), ONE),), ((2, (0,), ONE),), ((-1, (1,), ONE),), [],
            ((0, (0,), ONE), (0, (0,), HALF)), ((0, (0,), HALF), (0, (0,), ONE)), ((1, (1,), ONE), (0, (0,), ONE)),
            ((0, (1, 2), ONE), (0, (0,), ONE)), [(0, (0,), ONE)], ([0, (0,), ONE],), ((0, [0], ONE),), ((0, (0,), [1, 1]),),
            ((0, (0,), (2, 2)),), ((0, (0,), (-1, 1)),), ((0, (0,), (1, -1)),), ((0, (0,), 1),), ((0, (0,)),), ((0, (0,), ONE, 0),),
            ((False, (0,), ONE),), ((0, (False,), ONE),), ((0, (0,), (True, 1)),), ((0, (0,), (1, True)),), ((0, (2, 1), ONE),),
        ]
        for value in values:
            if asked.is_plan(value):
                continue
            check_raises(self, BadPlan, value, house_loads, store, value)
            check_raises(self, BadPlan, value, bears, store, (ONE, ONE), value)

    def test_no_rates(self):
        for text in SMALL:
            store = Store(text)
            for call in (greatest_times, lambda store, rates: shows_greatest_times(store, rates, None)):
                rates = tuple([NOUGHT] * len(store.item_names))
                check_raises(self, NoRates, rates, call, store, rates)

    def test_defined_here(self):
        self.assertEqual(plans.borne.__module__, "sumshelves.plans")


if __name__ == "__main__":
    unittest.main()
