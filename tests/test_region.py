"""Section 8: the region, its sides and corners."""

import functools
import itertools
import math
import random
import unittest
from fractions import Fraction

from sumshelves.errors import BadWeights, Unborne, Wide
from sumshelves.plans import borne, greatest
from sumshelves.region import (
    broken_side, corners, direction, edges, greatest_beside, held_sides, mixed, shows_direction, shows_mixed,
    shows_why_side, sides, why_side,
)
from sumshelves.stores import Store
from tests.asking import (
    HALF, NOUGHT, ONE, Asked, are_fractions, check_shown, is_fraction, is_lot, made_rates, read, shown, texts_of_kinds,
    told,
)
from tests.plain import alike, check_raises, number_below

BOTH = "items a b\nhouse p 2 a\nhouse q 2 b\nhouse r 1 a+b"
# c is out, b has only lots with a house of strength 0.
ODD = "items a b c\nhouse p 3 a\nhouse q 0 a+b\nhouse r 9 a"
# Four items, one of them out.
FOUR = "items a b c d\nhouse p 2 a\nhouse q 3 a+b\nhouse r 1 c\nhouse s 2 a+c b\nhouse t 4 a+b+c"
HALVES = ("items a b c d\nhouse k 1 c\nhouse l 1 a+c\nhouse m 1 b+c\nhouse n 1 a+b+c")
STEEP = "items k g b\nhouse a 2 k+b\nhouse b 8 b k+g\nhouse c 4 g k\nhouse d 6 g\nhouse e 0 k+g\nhouse f 9 g+b"
NARROW = [text for text in texts_of_kinds(41, 4, 6, 3) if len([1 for family in Asked(text).families if family]) <= 3]
TEXTS = NARROW + [BOTH, ODD, FOUR, HALVES, STEEP]
CALLS = [
    (sides, ()), (corners, ()), (edges, ()), (broken_side, (None,)), (why_side, (None, None)), (direction, (None,)),
    (shows_why_side, (None, None, None)), (shows_direction, (None, None)), (mixed, (None,)), (shows_mixed, (None, None)),
    (greatest_beside, (None, None)), (held_sides, (None, None)),
]


def weighed(weights, rates):
    return sum((weight * read(rate) for weight, rate in zip(weights, rates)), Fraction(0))


def solve(rows):
    """The only point on all of these planes (weights, number); None if there is none or another one."""
    rows = [[Fraction(part) for part in weights] + [Fraction(number)] for weights, number in rows]
    many = len(rows)
    for at in range(many):
        lead = next((k for k in range(at, many) if rows[k][at] != 0), None)
        if lead is None:
            return None
        rows[at], rows[lead] = rows[lead], rows[at]
        rows[at] = [part / rows[at][at] for part in rows[at]]
        for k in range(many):
            if k != at:
                rows[k] = [part - rows[k][at] * other for part, other in zip(rows[k], rows[at])]
    return tuple(row[-1] for row in rows)


def meeting_points(bounds, many):
    """All corners of what keeps the bounds, by a plain meeting of all of them, and of the bounds at 0."""
    planes = [(tuple(weights), number) for weights, number in bounds]
    planes += [(tuple(1 if k == item else 0 for k in range(many)), 0) for item in range(many)]
    points = set()
    for some in itertools.combinations(planes, many):
        point = solve(some)
        if point is not None and min(point, default=0) >= 0:
            if all(sum(w * x for w, x in zip(weights, point)) <= number for weights, number in bounds):
                points.add(point)
    return points


@functools.lru_cache(maxsize=None)
def shape(text):
    return sides(Store(text)), corners(Store(text))


def rank(points):
    """The dimension of the flat through these points."""
    if not points:
        return -1
    rows = [[part - first for part, first in zip(point, points[0])] for point in points[1:]]
    found = 0
    for column in range(len(points[0])):
        lead = next((row for row in rows if row[column] != 0), None)
        if lead is None:
            continue
        found += 1
        rows = [[part - row[column] / lead[column] * other for part, other in zip(row, lead)] for row in rows if row is not lead]
    return found


class Case(unittest.TestCase):
    def live(self, asked):
        return [item for item in range(asked.items)
                if any(all(asked.strengths[house] for house in lot) for lot in asked.families[item])]

    def covers(self, asked, weights, prices):
        if not asked.are_prices(prices):
            return False
        return all(asked.price(family, prices) >= weight for family, weight in zip(asked.families, weights) if family)


class Shape(Case):
    def test_corners_are_borne_and_nothing_beyond(self):
        for text in TEXTS:
            store, asked = Store(text), Asked(text)
            for rates in shape(text)[1]:
                self.assertTrue(are_fractions(rates, asked.items))
                value = borne(store, rates)
                self.assertTrue(asked.right_borne(rates, value) and value[0] == "plan", (text, rates))
                for item in range(asked.items):
                    beyond = tuple(told(read(rate) + Fraction(1, 1000)) if k == item else rate for k, rate in enumerate(rates))
                    keeps = all(weighed(weights, beyond) <= number for weights, number in shape(text)[0])
                    self.assertEqual(borne(store, beyond)[0] == "plan", keeps)

    def test_sides_hold(self):
        for text in TEXTS:
            asked = Asked(text)
            for weights, number in shape(text)[0]:
                self.assertEqual((type(weights), len(weights), type(number)), (tuple, asked.items, int))
                self.assertTrue(all(type(weight) is int and weight >= 0 for weight in weights) and any(weights))
                self.assertEqual(math.gcd(*weights, number), 1)
                value = why_side(Store(text), weights, number)
                self.assertEqual(value[0], "side")
                # These prices show by adding alone that no rates that are borne break the side.
                self.assertTrue(self.covers(asked, weights, value[1]) and asked.worth(value[1]) == number)

    def test_corners_are_where_the_sides_meet(self):
        for text in TEXTS:
            bounds, points = shape(text)
            plain = meeting_points(bounds, len(points[0]))
            self.assertEqual({tuple(read(rate) for rate in rates) for rates in points}, plain, text)
            self.assertEqual(list(points), sorted(set(points)))
            self.assertEqual(list(bounds), sorted(set(bounds)))

    def test_no_side_can_be_left_out(self):
        for text in TEXTS:
            asked = Asked(text)
            bounds, points = shape(text)
            live = self.live(asked)
            for item in range(asked.items):
                row = tuple(1 if k == item else 0 for k in range(asked.items))
                if item in live:
                    self.assertNotIn((row, 0), bounds)
                else:
                    self.assertIn((row, 0), bounds)
                    self.assertTrue(all(weights[item] == 0 or weights == row for weights, _ in bounds))
                    self.assertTrue(all(rates[item] == NOUGHT for rates in points))
            for weights, number in bounds:
                if number == 0:
                    continue
                on = [tuple(read(rate) for rate in rates) for rates in points if weighed(weights, rates) == number]
                self.assertGreaterEqual(len(on), len(live))
                self.assertEqual(rank(on), len(live) - 1, (text, weights))

    def test_told_again(self):
        for text in TEXTS[::4]:
            self.assertTrue(alike(sides(Store(text)), shape(text)[0]))
            self.assertTrue(alike(corners(Store(text)), shape(text)[1]))

    def test_by_hand(self):
        store = Store(ODD)
        self.assertEqual(sides(store), (((0, 0, 1), 0), ((0, 1, 0), 0), ((1, 0, 0), 12)))
        self.assertEqual(corners(store), ((NOUGHT, NOUGHT, NOUGHT), ((12, 1), NOUGHT, NOUGHT)))
        self.assertEqual((edges(store), broken_side(store, (NOUGHT, HALF, NOUGHT))), (((0, 1),), 1))
        none = Store("items a b\nhouse p 0 a\nhouse q 5 a+b")
        self.assertEqual((sides(none), corners(none), edges(none)), ((((0, 1), 0), ((1, 0), 0)), ((NOUGHT, NOUGHT),), ()))
        self.assertEqual(mixed(none, (NOUGHT, NOUGHT)), ("mixed", ((0, ONE),)))
        self.assertEqual(greatest_beside(none, 1, (ONE, ONE)), None)
        self.assertEqual(greatest_beside(none, 1, (NOUGHT, ONE)), (NOUGHT, 0))
        self.assertEqual(sides(Store(HALVES)), (((0, 0, 0, 1), 0), ((1, 1, 1, 0), 2)))

    def test_corners_ascend_as_python_sorts(self):
        # 27/2 is less than 14, but its tuple stands behind.
        self.assertEqual(sides(Store(STEEP)), (((1, 0, 0), 14), ((1, 1, 1), 18), ((3, 1, 2), 45)))
        self.assertEqual(corners(Store(STEEP))[3:], (
            ((9, 1), (0, 1), (9, 1)), ((14, 1), (0, 1), (0, 1)), ((14, 1), (0, 1), (3, 2)), ((14, 1), (3, 1), (0, 1)),
            ((27, 2), (9, 2), (0, 1))))

    def test_edges(self):
        for text in TEXTS:
            asked = Asked(text)
            bounds, points = shape(text)
            joined = edges(Store(text))
            self.assertEqual(list(joined), sorted(set(joined)))
            for one, other in itertools.combinations(range(len(points)), 2):
                on = [(weights, number) for weights, number in bounds
                      if weighed(weights, points[one]) == weighed(weights, points[other]) == number]
                on += [(tuple(1 if k == item else 0 for k in range(asked.items)), 0) for item in range(asked.items)
                       if points[one][item] == points[other][item] == NOUGHT]
                # They are joined if all that is on these bounds is a line.
                free = asked.items - rank([tuple([0] * asked.items)] + [tuple(map(Fraction, row)) for row, _ in on])
                self.assertEqual((one, other) in joined, free == 1, (text, one, other))
            live = len(self.live(asked))
            weighing = len([1 for _, number in bounds if number])
            if live == 2:
                self.assertTrue(len(points) == len(joined) == weighing + 2)
            if live == 3:
                self.assertEqual(len(points) + weighing + 3, len(joined) + 2)


class Sides(Case):
    def test_broken_side(self):
        chance = random.Random(1)
        words = {True: 0, False: 0}
        for text in TEXTS * 2:
            store, asked = Store(text), Asked(text)
            rates = made_rates(chance, asked.items, 6)
            broken = [k for k, (weights, number) in enumerate(shape(text)[0]) if weighed(weights, rates) > number]
            self.assertTrue(alike(broken_side(store, rates), broken[0] if broken else None))
            self.assertEqual(borne(store, rates)[0] == "plan", not broken)
            words[bool(broken)] += 1
        self.assertGreater(min(words.values()), 20)

    def right_why(self, asked, weights, number, value):
        bounds, points = shape(asked.text)
        if shown(value, "broken", 3):
            _, rates, plan = value
            return are_fractions(rates, asked.items) and asked.bears(rates, plan) and weighed(weights, rates) > number
        if shown(value, "side", 3):
            _, prices, numbers = value
            if (weights, number) not in bounds or not self.covers(asked, weights, prices) or asked.worth(prices) != number:
                return False
            return alike(numbers, tuple(k for k, rates in enumerate(points) if weighed(weights, rates) == number))
        if not shown(value, "idle", 2) or (weights, number) in bounds:
            return False
        return self.covers(asked, weights, value[1]) and asked.worth(value[1]) <= number

    def bounds_near(self, chance, text):
        bounds, points = shape(text)
        weights, number = chance.choice(bounds)
        yield weights, number
        yield weights, max(0, number - 1)
        yield weights, number + 1
        yield tuple(2 * weight for weight in weights), 2 * number
        made = tuple(chance.choice([0, 0, 1, 1, 2, 3, 999]) for _ in weights)
        if any(made):
            yield made, 0
            yield made, 9999
            edge = max(weighed(made, rates) for rates in points)
            yield made, min(9999, math.floor(edge))
            yield made, min(9999, math.ceil(edge))

    def test_why_side(self):
        chance = random.Random(2)
        words = {"broken": 0, "side": 0, "idle": 0}
        for text in TEXTS:
            store, asked = Store(text), Asked(text)
            for weights, number in self.bounds_near(chance, text):
                value = why_side(store, weights, number)
                words[value[0]] += 1
                self.assertTrue(self.right_why(asked, weights, number, value), (text, weights, number, value))
                self.assertIs(shows_why_side(store, weights, number, value), True)
                edge = max(weighed(weights, rates) for rates in shape(text)[1])
                self.assertEqual(value[0] == "broken", edge > number)
        self.assertGreater(min(words.values()), 30, words)

    def test_why_side_with_values_near(self):
        chance = random.Random(3)
        for text in TEXTS[::6] + [BOTH, ODD, FOUR]:
            store, asked = Store(text), Asked(text)
            for weights, number in itertools.islice(self.bounds_near(chance, text), 4):
                check_shown(self, shows_why_side, (store, weights, number), why_side(store, weights, number),
                            lambda value: self.right_why(asked, weights, number, value), chance, 40)

    def test_why_side_with_others_values(self):
        store = Store(BOTH)
        prices = (ONE, ONE, NOUGHT)
        for bound, value, right in (
            (((1, 1), 4), ("side", prices, (2, 4)), True), (((1, 1), 4), ("side", prices, [2, 4]), False),
            (((1, 1), 4), ("side", prices, (2,)), False), (((1, 1), 4), ("side", (ONE, ONE, ONE), (2, 4)), False),
            (((1, 1), 4), ("idle", prices), False), (((1, 1), 5), ("idle", prices), True),
            (((1, 1), 5), ("idle", (ONE, ONE, ONE)), True), (((1, 1), 5), ("idle", ((2, 1), ONE, NOUGHT)), False),
            (((2, 2), 8), ("idle", ((2, 1), (2, 1), NOUGHT)), True), (((2, 2), 8), ("side", ((2, 1), (2, 1), NOUGHT), (2, 4)), False),
            (((1, 1), 3), ("broken", (ONE, (5, 2)), ((0, (0,), ONE), (1, (0, 2), HALF), (1, (1,), (2, 1)))), True),
            (((1, 1), 3), ("broken", (ONE, (2, 1)), ((0, (0,), ONE), (1, (1,), (2, 1)))), False),
            (((0, 1), 3), ("side", (NOUGHT, ONE, ONE), (1, 2)), True), (((0, 1), 3), ("side", (NOUGHT, ONE, ONE), (True, 2)), False),
        ):
            self.assertIs(shows_why_side(store, *bound, value), right, (bound, value))
        odd = Store(ODD)
        for value, right in ((("side", (NOUGHT, NOUGHT, NOUGHT), (0, 1)), True), (("side", (NOUGHT, ONE, NOUGHT), (0, 1)), True),
                             (("side", (ONE, NOUGHT, NOUGHT), (0, 1)), False), (("idle", (NOUGHT, NOUGHT, NOUGHT)), False)):
            self.assertIs(shows_why_side(odd, (0, 0, 1), 0, value), right, value)

    def right_direction(self, asked, weights, value):
        if type(value) is not tuple or len(value) != 3:
            return False
        worth, rates, prices = value
        if not is_fraction(worth) or not are_fractions(rates, asked.items) or not self.covers(asked, weights, prices):
            return False
        if weighed(weights, rates) != read(worth) or asked.worth(prices) != read(worth):
            return False
        return all(weighed(row, rates) <= number for row, number in shape(asked.text)[0])

    def test_direction(self):
        chance = random.Random(4)
        for text in TEXTS:
            store, asked = Store(text), Asked(text)
            for _ in range(3):
                weights = tuple(chance.choice([0, 1, 2, 5, 999]) for _ in range(asked.items))
                if not any(weights):
                    continue
                value = direction(store, weights)
                self.assertTrue(self.right_direction(asked, weights, value), (text, weights, value))
                self.assertIs(shows_direction(store, weights, value), True)
                self.assertEqual(read(value[0]), max(weighed(weights, rates) for rates in shape(text)[1]))

    def test_no_direction_to_what_is_out(self):
        store, prices = Store(ODD), (ONE, NOUGHT, ONE)
        for rates, right in ((((12, 1), NOUGHT, NOUGHT), True), (((12, 1), NOUGHT, ONE), False), (((12, 1), ONE, NOUGHT), False)):
            self.assertIs(shows_direction(store, (1, 0, 0), ((12, 1), rates, prices)), right)

    def test_direction_with_values_near(self):
        chance = random.Random(5)
        for text in TEXTS[::8] + [BOTH, ODD, FOUR]:
            store, asked = Store(text), Asked(text)
            weights = (1,) * (asked.items - 1) + (2,)
            check_shown(self, shows_direction, (store, weights), direction(store, weights),
                        lambda value: self.right_direction(asked, weights, value), chance, 150)
        store = Store(BOTH)
        for rates, right in ((((1, 1), (3, 1)), True), (((3, 1), (1, 1)), True), (((2, 1), (2, 1)), True), (((5, 2), (3, 2)), True),
                             (((4, 1), (0, 1)), False), (((1, 1), (2, 1)), False), ([(2, 1), (2, 1)], False)):
            self.assertIs(shows_direction(store, (1, 1), ((4, 1), rates, (ONE, ONE, NOUGHT))), right, rates)


class Mixtures(Case):
    def right_mixed(self, asked, rates, value):
        bounds, points = shape(asked.text)
        broken = [k for k, (weights, number) in enumerate(bounds) if weighed(weights, rates) > number]
        if broken or not shown(value, "mixed", 2):
            return bool(broken) and alike(value, ("beyond", broken[0]))
        rows = value[1]
        if type(rows) is not tuple or len(rows) > asked.items + 1:
            return False
        for row in rows:
            if type(row) is not tuple or len(row) != 2 or not number_below(row[0], len(points)) or not is_fraction(row[1]):
                return False
        if any(share[0] == 0 for _, share in rows) or not is_lot(tuple(number for number, _ in rows), len(points)):
            return False
        if sum((read(share) for _, share in rows), Fraction(0)) != 1:
            return False
        come = [sum(read(share) * read(points[number][item]) for number, share in rows) for item in range(asked.items)]
        return come == [read(rate) for rate in rates]

    def some_within(self, chance, text):
        """Rates of the region: a mixture of some corners, or less."""
        points = chance.choices(shape(text)[1], k=chance.randint(1, 5))
        rates = [sum(read(rate) for rate in column) / len(points) for column in zip(*points)]
        return tuple(told(rate * chance.choice([1, 1, Fraction(1, 2)])) for rate in rates)

    def test_mixed(self):
        chance = random.Random(6)
        words = {"mixed": 0, "beyond": 0}
        for text in TEXTS:
            store, asked = Store(text), Asked(text)
            given = [self.some_within(chance, text) for _ in range(3)] + [made_rates(chance, asked.items, 6)] * 2
            for rates in given + [shape(text)[1][-1]]:
                value = mixed(store, rates)
                words[value[0]] += 1
                self.assertTrue(self.right_mixed(asked, rates, value), (text, rates, value))
                self.assertIs(shows_mixed(store, rates, value), True)
        self.assertGreater(min(words.values()), 30, words)

    def test_mixed_with_values_near(self):
        chance = random.Random(7)
        for text in TEXTS[::8] + [BOTH, ODD, FOUR]:
            store, asked = Store(text), Asked(text)
            for rates in (self.some_within(chance, text), made_rates(chance, asked.items, 6)):
                check_shown(self, shows_mixed, (store, rates), mixed(store, rates),
                            lambda value: self.right_mixed(asked, rates, value), chance, 80)

    def test_mixed_with_others_values(self):
        store = Store(BOTH)
        points = corners(store)
        self.assertEqual(points[0], (NOUGHT, NOUGHT))
        third = (1, 3)
        for value, right in (
            (("mixed", ((0, third), (2, third), (4, third))), True), (("mixed", ((2, third), (0, third), (4, third))), False),
            (("mixed", ((0, third), (2, (2, 3)))), False), (("mixed", ((0, third), (2, third), (4, (2, 6)))), False),
            (("mixed", ((False, third), (2, third), (4, third))), False), (("mixed", [(0, third), (2, third), (4, third)]), False),
            (("mixed", ((0, (1, 4)), (1, (1, 6)), (3, (1, 4)), (4, (1, 3)))), False), (("beyond", 0), False),
        ):
            self.assertIs(shows_mixed(store, ((4, 3), (4, 3)), value), right, value)
        # Five corners with the right rates are more than one beyond the items.
        fifth = (1, 5)
        rates = tuple(told(sum(read(rates[item]) for rates in points) / 5) for item in range(2))
        self.assertIs(shows_mixed(store, rates, ("mixed", tuple((k, fifth) for k in range(5)))), False)
        self.assertIs(shows_mixed(store, rates, mixed(store, rates)), True)
        four = tuple(told(sum(read(rates[item]) for rates in points[1:]) / 4) for item in range(2))
        self.assertIs(shows_mixed(store, four, ("mixed", tuple((k, (1, 4)) for k in range(1, 5)))), False)
        self.assertIs(shows_mixed(store, four, mixed(store, four)), True)
        for value, right in ((("beyond", 0), False), (("beyond", 2), True), (("beyond", True), False), (("beyond", (2,)), False)):
            self.assertIs(shows_mixed(store, ((5, 2), (5, 2)), value), right, value)
        for value, right in ((("beyond", 1), True), (("beyond", True), False), (("beyond", 2), False)):
            self.assertIs(shows_mixed(store, ((4, 1), (1, 1)), value), right, value)

    def test_greatest_beside(self):
        chance = random.Random(8)
        told_ones = 0
        for text in TEXTS:
            store, asked = Store(text), Asked(text)
            for item in range(asked.items):
                for rates in (self.some_within(chance, text), made_rates(chance, asked.items, 6)):
                    value = greatest_beside(store, item, rates)
                    others = tuple(NOUGHT if k == item else rate for k, rate in enumerate(rates))
                    if borne(store, others)[0] != "plan":
                        self.assertIs(value, None)
                        continue
                    told_ones += 1
                    rate, number = value
                    self.assertTrue(is_fraction(rate) and type(value) is tuple and type(number) is int)
                    bounds = shape(text)[0]
                    full = tuple(rate if k == item else other for k, other in enumerate(others))
                    on = [k for k, (weights, most) in enumerate(bounds) if weights[item] and weighed(weights, full) == most]
                    self.assertEqual(number, on[0])
                    self.assertEqual(borne(store, full)[0], "plan")
                    more = tuple(told(read(rate) + Fraction(1, 10 ** 6)) if k == item else other for k, other in enumerate(others))
                    self.assertNotEqual(borne(store, more)[0], "plan")
        self.assertGreater(told_ones, 60)

    def test_greatest_beside_none(self):
        for text in TEXTS:
            store, asked = Store(text), Asked(text)
            for item in range(asked.items):
                rate = greatest_beside(store, item, asked.alone(item, (999, 1)))[0]
                if asked.families[item]:
                    self.assertEqual(rate, greatest(store, item)[1])
                else:
                    self.assertEqual(rate, NOUGHT)

    def test_held_sides(self):
        chance = random.Random(9)
        for text in TEXTS:
            store, asked = Store(text), Asked(text)
            bounds = shape(text)[0]
            for item in range(asked.items):
                most = greatest_beside(store, item, asked.alone(item, NOUGHT))[0]
                for rate in (NOUGHT, most, told(read(most) * Fraction(chance.randint(0, 7), 7))):
                    self.check_held(store, asked, bounds, item, rate)
                beyond = told(read(most) + Fraction(1, 99))
                first = next(k for k, (weights, number) in enumerate(bounds) if weights[item] * read(beyond) > number)
                check_raises(self, Unborne, first, held_sides, store, item, beyond)

    def check_held(self, store, asked, bounds, item, rate):
        held = held_sides(store, item, rate)
        others = [k for k in range(asked.items) if k != item]
        self.assertEqual(list(held), sorted(set(held)))
        rows = [(tuple(weights[k] for k in others), number - weights[item] * read(rate)) for weights, number in bounds]
        if not others:
            self.assertEqual(held, ())
            return
        points = meeting_points(rows, len(others))
        self.assertEqual(meeting_points(held, len(others)), points, (asked.text, item, rate))
        live = [at for at in range(len(others)) if any(point[at] for point in points)]
        for weights, number in held:
            self.assertTrue(type(number) is int and number >= 0 and all(type(weight) is int for weight in weights))
            self.assertEqual(math.gcd(*weights, number), 1)
            if number == 0:
                self.assertEqual((sum(weights), max(weights)), (1, 1))
                self.assertNotIn(weights.index(1), live)
            else:
                self.assertTrue(all(weights[at] == 0 or at in live for at in range(len(others))))
                on = [point for point in points if sum(w * x for w, x in zip(weights, point)) == number]
                self.assertEqual(rank(on), len(live) - 1)
        self.assertEqual(len([1 for _, number in held if number == 0]), len(others) - len(live))

    def test_held_by_hand(self):
        store = Store(BOTH)
        self.assertEqual(held_sides(store, 0, NOUGHT), (((1,), 3),))
        self.assertEqual(held_sides(store, 0, (3, 2)), (((2,), 5),))
        self.assertEqual(held_sides(store, 0, (3, 1)), (((1,), 1),))
        check_raises(self, Unborne, 1, held_sides, store, 0, (31, 10))
        check_raises(self, Unborne, 0, held_sides, store, 1, (31, 10))
        self.assertEqual(held_sides(Store(ODD), 2, NOUGHT), (((0, 1), 0), ((1, 0), 12)))
        self.assertEqual(held_sides(Store(ODD), 0, (12, 1)), (((0, 1), 0), ((1, 0), 0)))
        check_raises(self, Unborne, 0, held_sides, Store(ODD), 2, (1, 999999999))
        self.assertEqual(held_sides(Store("items a\nhouse p 1 a\nhouse q 1 a"), 0, (2, 1)), ())


class Errors(Case):
    def test_wide(self):
        six = "\nhouse p 1 a\nhouse q 1 b\nhouse r 1 c\nhouse s 1 a+b+c\nhouse t 1 a\nhouse u 1 b"
        seven = six + "\nhouse v 1 c"
        for call, args in CALLS:
            check_raises(self, Wide, 3, call, Store("items a b c d" + six + "\nhouse v 1 d"), *args)
            check_raises(self, Wide, 3, call, Store("items a b c d" + six.replace("a+b+c", "d")), *args)
            # It is wide with lots that no ask goes to, as well.
            check_raises(self, Wide, 3, call, Store("items a b c d" + six.replace("s 1 a+b+c", "s 0 d")), *args)
            check_raises(self, Wide, 6, call, Store("items a b c" + seven), *args)
            check_raises(self, Wide, 6, call, Store("items a b c d" + seven), *args)
        for text in ("items a b c" + six, "items a b c d" + six):
            self.assertEqual(len(sides(Store(text))[0][0]), len(text.split("\n")[0].split(" ")) - 1)

    def test_bad_weights(self):
        store = Store(BOTH)
        for weights in ((0, 0), (1,), (1, 1, 1), (1, -1), (1, 1000), (True, 1), (1, False), [1, 1], ((1, 1), (1, 1)), "11", None):
            check_raises(self, BadWeights, weights, direction, store, weights)
            check_raises(self, BadWeights, weights, why_side, store, weights, None)
            check_raises(self, BadWeights, weights, shows_direction, store, weights, None)
            check_raises(self, BadWeights, weights, shows_why_side, store, weights, -1, None)
        for weights in ((0, 1), (999, 999), (999, 0)):
            self.assertEqual(why_side(store, weights, 9999)[0], "idle")


if __name__ == "__main__":
    unittest.main()
