"""What the modules stand on: fractions, the greatest sum under limits, points and planes."""

import itertools
import random
import unittest
from fractions import Fraction

from sumshelves.faces import corner_points, determinant, first_planes, keeps_all, meeting, needed, primitive, side_of
from sumshelves.fracs import common, divided, is_less, minus, multiplied, plus, reduced, scaled, sum_product, total, whole
from sumshelves.linear import best
from sumshelves.reaching import borne_or_barred, most_weighed, reach, trimmed
from sumshelves.shapes import shortest
from tests.asking import NOUGHT, ONE, Asked, read, some_rates, texts_of_kinds, told


class Fracs(unittest.TestCase):
    def test_reduced(self):
        for top, low in itertools.product(range(-12, 13), list(range(-6, 0)) + list(range(1, 7))):
            self.assertEqual(reduced(top, low), told(Fraction(top, low)))

    def test_reckoning(self):
        chance = random.Random(1)
        for _ in range(300):
            one, other = [told(Fraction(chance.randint(0, 40), chance.randint(1, 12))) for _ in range(2)]
            self.assertEqual(plus(one, other), told(read(one) + read(other)))
            self.assertEqual(minus(one, other), told(read(one) - read(other)))
            self.assertEqual(multiplied(one, other), told(read(one) * read(other)))
            self.assertEqual(is_less(one, other), read(one) < read(other))
            if other[0]:
                self.assertEqual(divided(one, other), told(read(one) / read(other)))

    def test_many(self):
        chance = random.Random(2)
        for many in range(6):
            rows = [[told(Fraction(chance.randint(0, 40), chance.randint(1, 12))) for _ in range(many)] for _ in range(2)]
            self.assertEqual(total(rows[0]), told(sum(map(read, rows[0]))))
            self.assertEqual(sum_product(*rows), told(sum(read(one) * read(other) for one, other in zip(*rows))))
            self.assertEqual(scaled(rows[0], (2, 3)), tuple(told(read(part) * Fraction(2, 3)) for part in rows[0]))
            tops, low = common(rows[0])
            self.assertEqual([Fraction(top, low) for top in tops], list(map(read, rows[0])))
        self.assertEqual(whole(7), (7, 1))


class Best(unittest.TestCase):
    def test_parts_and_prices_come_to_the_same(self):
        chance = random.Random(3)
        for _ in range(400):
            many, limits = chance.randint(0, 7), [chance.choice([0, 0, 1, 2, 5, 9]) for _ in range(chance.randint(1, 6))]
            columns = []
            for _ in range(many):
                column = [chance.choice([0, 0, 1, 1, 2, 3, -1]) for _ in limits]
                # Something has to hold each column, or there would be no greatest sum.
                column[chance.randrange(len(limits))] = chance.randint(1, 3)
                columns.append([abs(part) for part in column])
            gains = [chance.randint(-1, 4) for _ in columns]
            parts, prices, low = best(columns, limits, gains)
            self.assertTrue(low > 0 and min(parts + prices) >= 0)
            for at, limit in enumerate(limits):
                self.assertLessEqual(sum(part * column[at] for part, column in zip(parts, columns)), limit * low)
            for column, gain in zip(columns, gains):
                self.assertGreaterEqual(sum(price * one for price, one in zip(prices, column)), gain * low)
            gained = sum(part * gain for part, gain in zip(parts, gains))
            self.assertEqual(gained, sum(price * limit for price, limit in zip(prices, limits)))

    def test_ties_come_to_an_end(self):
        # Where many limits are 0 a careless choice of columns goes round and round (Beale's question is one such).
        columns = [[1, 2, 0], [-240, -180, 0], [-4, -2, 100], [36, 12, 0]]
        parts, _, low = best(columns, [0, 0, 100], [3, -600, 2, -24])
        self.assertEqual(Fraction(sum(part * gain for part, gain in zip(parts, [3, -600, 2, -24])), low), 5)

    def test_no_columns(self):
        self.assertEqual(best([], [3, 0], []), ([], [0, 0], 1))


class Reaching(unittest.TestCase):
    def test_reach_at_strengths_that_are_not_whole(self):
        chance = random.Random(4)
        for text in texts_of_kinds(5, often=1):
            asked = Asked(text)
            rates = some_rates(chance, asked)
            if rates is None:
                continue
            strengths = [Fraction(chance.randint(0, 9), chance.randint(1, 4)) for _ in range(asked.houses)]
            there = Asked(text, strengths)
            times, plan, prices = reach(there.families, rates, tuple(map(told, strengths)))
            self.assertTrue(there.right_times(rates, ("times", times, plan, prices)), (text, rates))
            capped = reach(there.families, rates, tuple(map(told, strengths)), True)
            self.assertEqual(read(capped[0]), min(1, read(times)))
            self.assertEqual(capped[2] is None, read(times) >= 1)
            plan, prices = borne_or_barred(there.families, rates, tuple(map(told, strengths)))
            self.assertTrue(there.bears(rates, plan) if prices is None else there.bars(rates, prices))

    def test_no_rates_are_borne(self):
        self.assertEqual(borne_or_barred((((0,),), ()), (NOUGHT, NOUGHT), (NOUGHT, ONE)), ((), None))

    def test_trimmed(self):
        rows = [(1, (2,), (1, 1)), (0, (1,), (1, 2)), (0, (0,), (2, 1)), (1, (0,), (1, 2))]
        self.assertEqual(trimmed(rows, [(2, 1), (3, 4)]), ((0, (0,), (2, 1)), (1, (0,), (1, 2)), (1, (2,), (1, 4))))
        self.assertEqual(trimmed(rows, [(9, 4), NOUGHT]), ((0, (0,), (2, 1)), (0, (1,), (1, 4))))

    def test_whole_weights(self):
        families = (((0,), (1, 2)), ((1,), (0, 2)))
        worth, plan, prices = most_weighed(families, (2, 1), (2, 2, 1))
        self.assertEqual((worth, plan, prices), ((7, 1), ((0, (0,), (2, 1)), (0, (1, 2), ONE), (1, (1,), ONE)), ((2, 1), ONE, ONE)))
        self.assertEqual(most_weighed(families, (0, 0), (2, 2, 1))[0], NOUGHT)


class Faces(unittest.TestCase):
    def test_determinants(self):
        self.assertEqual(determinant([]), 1)
        self.assertEqual(determinant([[7]]), 7)
        self.assertEqual(determinant([[1, 2], [3, 4]]), -2)
        self.assertEqual(determinant([[2, 0, 1], [1, 3, 2], [0, 1, 1]]), 3)
        self.assertEqual(determinant([(1, 2, 3), (4, 5, 6), (7, 8, 9)]), 0)

    def test_meeting(self):
        self.assertEqual(meeting([(1, 0, -3), (0, 2, -5)]), (6, 5, 2))
        self.assertEqual(meeting([(0, 2, -5), (1, 0, -3)]), (6, 5, 2))
        self.assertEqual(meeting([(3, -6)]), (2, 1))
        self.assertIs(meeting([(1, 1, -3), (2, 2, -5)]), None)
        self.assertIs(meeting([(1, 1, -3), (1, 1, -3)]), None)

    def test_sides_and_corners(self):
        planes = [(1, 0, -3), (0, 1, -3), (1, 1, -4)]
        points = corner_points(2, planes)
        self.assertEqual(sorted(points), [(0, 0, 1), (0, 3, 1), (1, 3, 1), (3, 0, 1), (3, 1, 1)])
        self.assertEqual([side_of(planes[2], point) for point in [(1, 1, 1), (1, 3, 1), (9, 1, 2)]], [-2, 0, 2])
        self.assertTrue(all(keeps_all(first_planes(2) + planes, point) for point in points))
        self.assertEqual(primitive([4, 0, -6]), (2, 0, -3))
        # Left out are planes that touch nothing, a corner alone, or no more than another plane.
        more = planes + [(1, 1, -9), (2, 1, -7), (1, 2, -7), (1, 3, -11)]
        self.assertEqual(needed(2, more, corner_points(2, more)), planes)
        chance = random.Random(5)
        for _ in range(20):
            chance.shuffle(more)
            self.assertEqual(sorted(needed(2, more, corner_points(2, more))), sorted(planes))
        self.assertEqual(corner_points(0, []), [(1,)])

    def test_shortest(self):
        bounds = [((1, 1, 0), 4), ((0, 1, 2), 0), ((2, 0, 1), 10), ((1, 0, 0), 5)]
        self.assertEqual(shortest(bounds, 3), (((0, 0, 1), 0), ((0, 1, 0), 0), ((1, 0, 0), 4)))
        self.assertEqual(shortest([((2, 4), 6), ((1, 0), 9), ((0, 3), 3)], 2), (((0, 1), 1), ((1, 2), 3)))
        self.assertEqual(shortest([((1, 1), 4), ((2, 2), 8), ((3, 3), 12), ((1, 0), 3)], 2), (((1, 0), 3), ((1, 1), 4)))


if __name__ == "__main__":
    unittest.main()
