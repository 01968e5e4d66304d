"""Section 3, as far as it speaks of rates, whole asks, packings, falls, mending and worths."""

import random
import unittest
from fractions import Fraction

from sumshelves.apart import apart_always, losing_always, losing_packed, packed
from sumshelves.contents import barring_content, content_times, told_by_contents
from sumshelves.errors import NoHelp, Wide
from sumshelves.falls import bearing_lots, behind_falls, breaking_lots, greatest_behind, most_falls
from sumshelves.mending import greatest_mending, helping_lots
from sumshelves.plans import borne, cheapest_lot, greatest, greatest_times, shows_borne, shows_greatest_times, slack
from sumshelves.region import broken_side, corners, direction, edges, mixed, shows_mixed, shows_why_side, sides, why_side
from sumshelves.stores import Store
from sumshelves.whole import most_any, most_of, shows_whole_plan, whole_plan
from sumshelves.worths import house_worth, shows_worth_line, two_worths, wanted, worth_line
from tests.asking import NOUGHT, ONE, Asked, made_rates, read, some_rates, texts_of_kinds, times_rates, told
from tests.plain import Plain, alike, raised
from tests.test_guarantees import family, moved, renamed

TEXTS = texts_of_kinds(101)
NARROW = [text for text in texts_of_kinds(102, 3, 6) if Asked(text).items <= 3]


def more_of(store, chance):
    """Stores with a house, a strength, a piece more."""
    items = range(len(store.item_names))
    piece = tuple(sorted(chance.sample(items, chance.randint(1, len(items)))))
    if len(store) < 8:
        yield store.with_house("more", chance.randint(0, 9), (piece,))
    house = chance.randrange(len(store))
    if store.strengths[house] < 9:
        yield store.with_strength(house, store.strengths[house] + 1)
    if piece not in store.pieces[house] and len(store.pieces[house]) == 1:
        yield store.with_piece(house, piece)


class OneOfBoth(unittest.TestCase):
    def test_plans_and_prices(self):
        chance = random.Random(1)
        for text in TEXTS:
            store, asked = Store(text), Asked(text)
            rates = some_rates(chance, asked)
            if rates is None:
                continue
            times = read(greatest_times(store, rates)[1])
            within, beyond = times_rates(rates, told(times)), times_rates(rates, told(times + Fraction(1, 100)))
            plan, prices = borne(store, within), borne(store, beyond)
            self.assertEqual((plan[0], prices[0]), ("plan", "prices"))
            self.assertIs(shows_borne(store, within, prices), False)
            self.assertIs(shows_borne(store, beyond, plan), False)
            word, most, told_plan, told_prices = greatest_times(store, rates)
            for other in (Fraction(1, 2), 2):
                value = (word, told(read(most) * other), told_plan, told_prices)
                self.assertIs(shows_greatest_times(store, rates, value), most == NOUGHT)

    def test_placings_and_trees(self):
        for text in NARROW:
            store, asked = Store(text), Asked(text)
            for item in range(asked.items):
                if not asked.families[item]:
                    continue
                number, placing, tree = most_of(store, item)
                asks = tuple(number if other == item else 0 for other in range(asked.items))
                self.assertIs(shows_whole_plan(store, asks, ("placing", placing)), True)
                self.assertIs(shows_whole_plan(store, asks, ("barred", tree)), False)
                if number < 9:
                    more = tuple(many + (other == item) for other, many in enumerate(asks))
                    self.assertIs(shows_whole_plan(store, more, ("barred", tree)), True)
                    self.assertIs(shows_whole_plan(store, more, ("placing", placing)), False)


class LessAndMore(unittest.TestCase):
    def test_whole_asks_fractions_contents(self):
        chance = random.Random(3)
        for text in TEXTS:
            store, asked = Store(text), Asked(text)
            rates = some_rates(chance, asked)
            if rates is not None:
                self.assertLessEqual(read(greatest_times(store, rates)[1]), read(content_times(store, rates)[0]))
            if len(store) > 6:
                continue
            asks = tuple(chance.randint(0, 3) for _ in range(asked.items))
            if whole_plan(store, asks)[0] == "placing":
                rates = tuple((many, 1) for many in asks)
                self.assertEqual(borne(store, rates)[0], "plan")
                self.assertIs(barring_content(store, rates), None)

    def test_whole_asks_of_one_item_are_packed(self):
        for text in TEXTS:
            store, asked = Store(text), Asked(text)
            if len(store) > 6 or any(len(pieces) > 1 for pieces in store.pieces):
                continue
            for item in range(asked.items):
                if asked.families[item]:
                    many = len(packed(store, item)[0])
                    self.assertEqual(most_of(store, item)[0], min(many, 9))
                    let = content_times(store, asked.alone(item))[0]
                    self.assertTrue(many <= read(greatest(store, item)[1]) <= read(let))
                    if apart_always(store, item) == ("always",):
                        self.assertEqual(many, read(greatest(store, item)[1]))

    def test_nothing_is_borne_less_with_more(self):
        chance = random.Random(4)
        for text in TEXTS:
            store, asked = Store(text), Asked(text)
            rates = some_rates(chance, asked)
            if rates is None:
                continue
            times = read(greatest_times(store, rates)[1])
            for more in more_of(store, chance):
                self.assertGreaterEqual(read(greatest_times(more, rates)[1]), times)
                self.assertEqual(borne(more, times_rates(rates, told(times)))[0], "plan")
                for many in (1, len(store)):
                    if len(more) == len(store):
                        behind, also = greatest_behind(store, rates, many), greatest_behind(more, rates, many)
                        self.assertGreaterEqual(read(also[1]), read(behind[1]))
                if len(more) <= 6:
                    for item in range(asked.items):
                        if asked.families[item]:
                            self.assertGreaterEqual(most_of(more, item)[0], most_of(store, item)[0])
                    if () not in asked.families:
                        self.assertGreaterEqual(most_any(more), most_any(store))

    def test_slack_and_times(self):
        chance = random.Random(5)
        for text in TEXTS:
            store, asked = Store(text), Asked(text)
            rates = made_rates(chance, asked.items, 3)
            house = chance.randrange(asked.houses)
            value = slack(store, rates, house)
            if value[0] == "slack":
                for more in more_of(store, chance):
                    gained = more.strengths[house] - store.strengths[house]
                    self.assertGreaterEqual(slack(more, rates, house)[1], value[1] + gained)


class OneRegion(unittest.TestCase):
    def test_plans_sides_and_mixtures(self):
        chance = random.Random(6)
        words = {True: 0, False: 0}
        for text in NARROW:
            store, asked = Store(text), Asked(text)
            for _ in range(4):
                rates = made_rates(chance, asked.items, 7, 2)
                is_borne = borne(store, rates)[0] == "plan"
                words[is_borne] += 1
                self.assertEqual(broken_side(store, rates) is None, is_borne)
                self.assertEqual(mixed(store, rates)[0] == "mixed", is_borne)
                if any(rate[0] for rate in rates) and asked.out(rates) is None:
                    self.assertEqual(greatest_times(store, rates)[1][0] >= greatest_times(store, rates)[1][1], is_borne)
        self.assertGreater(min(words.values()), 20)

    def test_told_prices_are_bounds_that_hold(self):
        chance = random.Random(7)
        for text in NARROW:
            store, asked = Store(text), Asked(text)
            rates = some_rates(chance, asked)
            if rates is None:
                continue
            _, times, _, prices = greatest_times(store, rates)
            for corner in corners(store):
                cost = sum(read(rate) * read(cheapest_lot(store, item, prices)[0])
                           for item, rate in enumerate(corner) if asked.families[item])
                self.assertLessEqual(cost, read(times))

    def test_a_house_without_strength_is_none(self):
        chance = random.Random(8)
        for text in TEXTS:
            store, asked = Store(text), Asked(text)
            if len(store) == 2:
                continue
            house = chance.randrange(len(store))
            fallen, less = store.with_strength(house, 0), store.without_house(house)
            for rates in (made_rates(chance, asked.items), times_rates(made_rates(chance, asked.items), (1, 4))):
                self.assertEqual(borne(fallen, rates)[0] == "plan", borne(less, rates)[0] == "plan")
            for item in range(asked.items):
                one, other = greatest(fallen, item), greatest(less, item)
                self.assertEqual(NOUGHT if one[0] == "out" else one[1], NOUGHT if other[0] == "out" else other[1])
            if raised(sides, store) is None:
                self.assertEqual((sides(fallen), corners(fallen), edges(fallen)), (sides(less), corners(less), edges(less)))
            rates = times_rates(made_rates(chance, asked.items), (1, 3))
            if behind_falls(store, rates, 1)[0] == "borne":
                self.assertEqual(borne(less, rates)[0], "plan")
                self.assertIs(shows_borne(fallen, rates, ("plan", behind_falls(store, rates, 1)[1][house])), True)


class Names(unittest.TestCase):
    def all_told(self, store, rates, asks, tolls):
        """What all functions tell of a store."""
        told_ones = [borne(store, rates), greatest_times(store, rates), told_by_contents(store, rates), content_times(store, rates),
                     barring_content(store, rates), behind_falls(store, rates, 1), greatest_behind(store, rates, 1), wanted(store, rates)]
        for house in range(len(store)):
            told_ones += [slack(store, rates, house), helping_lots(store, house), worth_line(store, rates, house),
                          house_worth(store, rates, house)]
            error = raised(greatest_mending, store, house, rates)
            told_ones.append(greatest_mending(store, house, rates) if error is None else (type(error).__name__, error.value))
        told_ones += [greatest(store, item) for item in range(len(store.item_names))]
        told_ones.append(two_worths(store, rates, 0, 1))
        if len(store) <= 6:
            told_ones += [whole_plan(store, asks), breaking_lots(store, rates), bearing_lots(store, rates)]
        if raised(sides, store) is None:
            told_ones += [sides(store), corners(store), edges(store), mixed(store, rates), direction(store, (2,) * len(rates))]
        if all(len(pieces) == 1 for pieces in store.pieces):
            told_ones += [(packed(store, item), losing_packed(store, item, tolls), apart_always(store, item), losing_always(store, item))
                          for item in range(len(rates)) if greatest(store, item)[0] != "out"]
        return told_ones

    def test_other_names(self):
        chance = random.Random(9)
        for text in TEXTS[::2]:
            store, asked = Store(text), Asked(text)
            rates = made_rates(chance, asked.items)
            if any(rate[0] for rate in rates):
                asks, tolls = tuple(chance.randint(0, 3) for _ in rates), tuple(chance.randint(0, 9) for _ in range(asked.houses))
                one = self.all_told(store, rates, asks, tolls)
                self.assertTrue(alike(one, self.all_told(Store(renamed(text)), rates, asks, tolls)), text)
                self.assertTrue(alike(one, self.all_told(Store(text), rates, asks, tolls)), text)

    def test_other_sequences(self):
        chance = random.Random(10)
        for text in TEXTS:
            asked = Asked(text)
            self.items = chance.sample(range(asked.items), asked.items)
            self.houses = chance.sample(range(asked.houses), asked.houses)
            self.store, self.other = Store(text), Store(moved(text, self.items, self.houses))
            rates = some_rates(chance, asked)
            if rates is not None:
                self.check_rates(rates, tuple(rates[item] for item in self.items))
            self.check_items(asked)

    def lot(self, lot):
        """A lot of the other store as one of the first one."""
        return tuple(sorted(self.houses[house] for house in lot))

    def check_rates(self, rates, turned):
        store, other = self.store, self.other
        self.assertEqual(greatest_times(store, rates)[1], greatest_times(other, turned)[1])
        self.assertEqual(borne(store, rates)[0], borne(other, turned)[0])
        self.assertEqual(content_times(store, rates)[0], content_times(other, turned)[0])
        self.assertEqual([greatest_behind(store, rates, many)[1] for many in (1, 2)], [greatest_behind(other, turned, many)[1] for many in (1, 2)])
        strengths = wanted(other, turned)[1]
        for at, house in enumerate(self.houses):
            self.assertEqual(strengths[at], wanted(store, rates)[1][house])
            self.assertEqual(slack(store, rates, house)[:1], slack(other, turned, at)[:1])
            if slack(store, rates, house)[0] == "slack":
                self.assertEqual(slack(store, rates, house)[1], slack(other, turned, at)[1])
            self.assertEqual(worth_line(store, rates, house)[1], worth_line(other, turned, at)[1])
            self.assertEqual(house_worth(store, rates, house), house_worth(other, turned, at))
            self.check_line(rates, worth_line(other, turned, at), house)
            self.check_mending(rates, turned, house, at)
        self.assertEqual(two_worths(store, rates, self.houses[0], self.houses[1]), two_worths(other, turned, 0, 1))
        if len(store) <= 6:
            self.assertEqual(family(map(self.lot, breaking_lots(other, turned))), breaking_lots(store, rates))
            if borne(store, rates)[0] == "plan":
                self.assertEqual(most_falls(store, rates), most_falls(other, turned))

    def check_line(self, rates, line, house):
        """That what is told of the other store is right of the first one, too."""
        word, points, plans, prices = line
        turned = tuple(tuple(sorted((self.items[item], self.lot(lot), share) for item, lot, share in plan)) for plan in plans)
        back = [self.houses.index(k) for k in range(len(self.houses))]
        value = (word, points, turned, tuple(tuple(row[at] for at in back) for row in prices))
        self.assertIs(shows_worth_line(self.store, rates, house, value), True)

    def check_mending(self, rates, turned, house, at):
        self.assertEqual(family(map(self.lot, helping_lots(self.other, at))), helping_lots(self.store, house))
        error = raised(greatest_mending, self.store, house, rates)
        also = raised(greatest_mending, self.other, at, turned)
        self.assertIs(type(error), type(also))
        if error is None:
            self.assertEqual(greatest_mending(self.store, house, rates)[0], greatest_mending(self.other, at, turned)[0])
        elif type(error) is NoHelp:
            self.assertEqual((error.value, also.value), (house, at))

    def check_items(self, asked):
        store, other = self.store, self.other
        for at, item in enumerate(self.items):
            one, two = greatest(store, item), greatest(other, at)
            self.assertEqual(one[0], two[0])
            if one[0] == "out":
                continue
            self.assertEqual(one[1], two[1])
            if len(store) <= 6:
                self.assertEqual(most_of(store, item)[0], most_of(other, at)[0])
            if all(len(pieces) == 1 for pieces in store.pieces):
                self.assertEqual(len(packed(store, item)[0]), len(packed(other, at)[0]))
                self.assertEqual((apart_always(store, item)[0], losing_always(store, item)[0]),
                                 (apart_always(other, at)[0], losing_always(other, at)[0]))
        if len(store) <= 6 and () not in asked.families:
            self.assertEqual(most_any(store), most_any(other))
        if raised(sides, store) is None:
            rows = sorted((tuple(weights[self.items.index(k)] for k in range(asked.items)), number) for weights, number in sides(other))
            self.assertEqual(tuple(rows), sides(store))
            points = [tuple(rates[self.items.index(k)] for k in range(asked.items)) for rates in corners(other)]
            self.assertEqual(tuple(sorted(points)), corners(store))
            pairs = sorted(tuple(sorted(corners(store).index(points[k]) for k in pair)) for pair in edges(other))
            self.assertEqual(tuple(pairs), edges(store))
        else:
            self.assertIs(type(raised(sides, other)), Wide)


class Shown(unittest.TestCase):
    def test_others_mixtures_and_reasons(self):
        chance = random.Random(11)
        for text in NARROW:
            asked = Asked(text)
            houses = chance.sample(range(asked.houses), asked.houses)
            store, other = Store(text), Store(moved(text, range(asked.items), houses))
            back = [houses.index(house) for house in range(asked.houses)]
            rates = times_rates(corners(store)[-1], (2, 3))
            self.assertIs(shows_mixed(store, rates, mixed(other, rates)), True)
            for weights, number in sides(store):
                word, prices, numbers = why_side(other, weights, number)
                value = (word, tuple(prices[at] for at in back), numbers)
                self.assertIs(shows_why_side(store, weights, number, value), True)
            self.assertEqual(len(Plain(text).houses), len(other))
            self.assertEqual(direction(store, (1,) * asked.items)[0], direction(other, (1,) * asked.items)[0])
            self.assertEqual(greatest_times(store, (ONE,) * asked.items)[0], greatest_times(other, (ONE,) * asked.items)[0])


if __name__ == "__main__":
    unittest.main()
