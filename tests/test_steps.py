"""What the later modules stand on: rows in steps, plans that fit, first seats, words of lines."""

import itertools
import math
import random
import unittest
from fractions import Fraction

from sumshelves.fitting import all_spots, fit_all, fit_at, fitted
from sumshelves.seats import count_moves, first_lost, first_seats, least_moved
from sumshelves.steps import free_rows, stepped
from sumshelves.words import are_formed, is_number_word
from tests.asking import NOUGHT, ONE, Asked, read, texts_of_kinds, told
from tests.plainhall import best_seats, seatings
from tests.test_heard import solved


class Steps(unittest.TestCase):
    def rows(self, chance):
        many = chance.randint(1, 5)
        return [[chance.choice([0, 0, 1, -1, chance.randint(-9, 9)]) for _ in range(many)] for _ in range(chance.randint(0, 6))], many

    def is_sum(self, rows, row):
        return not any(row) if not rows else solved([list(column) for column in zip(*rows)], row) is not None

    def test_stepped(self):
        chance = random.Random(1)
        for _ in range(400):
            rows, many = self.rows(chance)
            kept = [list(row) for row in rows]
            steps = stepped(rows)
            self.assertEqual(rows, kept)
            places = [next(at for at, part in enumerate(row) if part) for row in steps]
            self.assertEqual(places, sorted(set(places)))
            for row, place in zip(steps, places):
                self.assertGreater(row[place], 0)
                self.assertEqual(math.gcd(*row), 1)
                self.assertEqual([other[place] for other in steps if other is not row], [0] * (len(steps) - 1))
                self.assertTrue(self.is_sum(rows, row))
            self.assertTrue(all(self.is_sum(steps, row) for row in rows))
            self.assertEqual(stepped(chance.sample(rows, len(rows))), steps)

    def test_free_rows(self):
        chance = random.Random(2)
        for _ in range(400):
            rows, many = self.rows(chance)
            free = free_rows(rows, many)
            self.assertEqual(len(free) + len(stepped(rows)), many)
            self.assertEqual(len(stepped(free)), len(free))
            for row, other in itertools.product(rows, free):
                self.assertEqual(sum(part * also for part, also in zip(row, other)), 0)
        self.assertEqual(free_rows([], 2), [[1, 0], [0, 1]])
        self.assertEqual(free_rows([[2, 3, 0]], 3), [[-3, 2, 0], [0, 0, 2]])


class Fitting(unittest.TestCase):
    def test_fitted(self):
        chance = random.Random(3)
        for text in texts_of_kinds(171, often=1):
            asked = Asked(text)
            spots = all_spots(asked.families)
            if not spots:
                continue
            loads = [Fraction(0)] * asked.houses
            for _, lot in chance.sample(spots, min(4, len(spots))):
                share = Fraction(chance.randint(1, 9), chance.randint(1, 3))
                loads = [load + share * (house in lot) for house, load in enumerate(loads)]
            counts = tuple(map(told, loads))
            self.assertEqual([read(part) for part in counts], asked.loads(fit_all(asked.families, counts)[0]))
            gains = tuple(chance.randint(-99, 99) for _ in range(asked.items))
            plan, row = fitted(asked.families, counts, gains)
            self.assertTrue(asked.is_plan(plan))
            self.assertEqual(asked.loads(plan), loads)
            gained = sum(gain * rate for gain, rate in zip(gains, asked.sums(plan)))
            self.assertEqual(gained, sum(read(part) * load for part, load in zip(row, loads)))
            for item, lot in spots:
                self.assertGreaterEqual(sum(read(row[house]) for house in lot), gains[item])

    def test_gains_against_the_counts(self):
        # What an ask of a loses is more than one push at each of its houses.
        families = (((0, 1),), ((0,),))
        plan, row = fitted(families, (ONE, ONE), (-500, 3))
        self.assertEqual(plan, ((0, (0, 1), ONE),))
        self.assertEqual(read(row[0]) + read(row[1]), -500)
        self.assertGreaterEqual(read(row[0]), 3)

    def test_some_houses(self):
        families = (((0, 1), (2,)),)
        self.assertEqual(fit_at(families, (ONE, NOUGHT, ONE), [0, 2])[0], ((0, (0, 1), ONE), (0, (2,), ONE)))
        self.assertIs(fit_at(families, (ONE, NOUGHT, ONE), [0, 1])[0], None)
        self.assertEqual(fit_at(families, (ONE, NOUGHT, ONE), [])[0], ())


class Seats(unittest.TestCase):
    def some_rows(self, chance):
        """Rows as the program has them, asks as the plain hall has them, and what is left of each house."""
        houses = chance.randint(1, 4)
        every = [lot for size in range(1, houses + 1) for lot in itertools.combinations(range(houses), size)]
        families = [sorted(chance.sample(every, chance.randint(1, min(4, len(every))))) for _ in range(3)]
        asks, rows = [], []
        for number in range(chance.randint(0, 5)):
            item = chance.randrange(3)
            seat = chance.choice(families[item] + [None])
            asks.append((number, item, seat))
            rows.append((seat, families[item]))
        return rows, asks, tuple(chance.randint(0, 3) for _ in range(houses))

    def test_beside_all_seatings(self):
        chance = random.Random(4)
        none = 0
        for _ in range(400):
            rows, asks, left = self.some_rows(chance)
            every = seatings([lots for _, lots in rows], left)
            best = best_seats([lots for _, lots in rows], asks, left)
            if best is None:
                self.assertIs(first_seats(rows, left, len(rows)), None)
                none += 1
            else:
                self.assertEqual(first_seats(rows, left, len(rows)), every[0])
                self.assertEqual(least_moved(rows, left), best[1])
                self.assertEqual(count_moves(rows, best[1]), best[0])
                for most in range(len(rows)):
                    fit = [seats for seats in every if count_moves(rows, seats) <= most]
                    self.assertEqual(first_seats(rows, left, most), fit[0] if fit else None)
        self.assertGreater(none, 50)

    def test_first_lost(self):
        chance = random.Random(5)
        sizes = set()
        for _ in range(200):
            rows, asks, left = self.some_rows(chance)
            found = []
            for size in range(len(rows) + 1):
                for lost in itertools.combinations(range(len(rows)), size):
                    kept = [at for at in range(len(rows)) if at not in lost]
                    best = best_seats([rows[at][1] for at in kept], [asks[at] for at in kept], left)
                    if best is not None:
                        found.append((best[0], lost, best[1]))
                if found:
                    break
            self.assertEqual(first_lost(rows, left), min(found)[1:])
            sizes.add(len(min(found)[1]))
        self.assertTrue({0, 1, 2, 3} <= sizes)


class Words(unittest.TestCase):
    def test_numbers(self):
        for word in ("0", "1", "10", "999999999", "100000000"):
            self.assertTrue(is_number_word(word))
        for word in ("", "00", "01", "-1", "+1", "1.0", "1_0", "1000000000", " 1", "1 ", "a", "1a", "0x1"):
            self.assertFalse(is_number_word(word))

    def test_forms(self):
        self.assertTrue(are_formed(["a", "1"], ("item", "number")))
        self.assertTrue(are_formed([], ()))
        for words in (["1", "a"], ["a"], ["a", "1", "1"], ["A", "1"], ["abcdefghi", "1"], ["", "1"]):
            self.assertFalse(are_formed(words, ("item", "number")))


if __name__ == "__main__":
    unittest.main()
