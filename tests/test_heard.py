"""Section 15: what counts of houses tell."""

import itertools
import math
import random
import unittest
from fractions import Fraction

from sumshelves.errors import BadCounts, BadFraction, BadItem, BadLot, BadWeights, Quarrel, Wide
from sumshelves.heard import (
    heard_plan, heard_range, heard_sure, settled_sums, settling, settling_lots, shows_heard_plan, shows_heard_range,
    shows_heard_sure, shows_settling, shows_wrong_counts, wrong_counts,
)
from sumshelves.plans import house_loads
from sumshelves.stores import Store
from tests.asking import HALF, NOUGHT, ONE, Asked, all_lots, are_fractions, check_shown, is_fraction, is_lot, read, shown, texts_of_kinds, told
from tests.plain import LETTERS, alike, any_values, check_raises, made_text

THREE = "items a b\nhouse one 2 a\nhouse two 2 b\nhouse three 1 a+b"
ODD = "items a b c\nhouse p 3 a\nhouse q 0 a+b\nhouse r 9 a"
MIXED = [made_text(random.Random(at), 1 + at % 4, 2 + at % 7, 2) for at in range(24)]
TEXTS = texts_of_kinds(151, often=1) + MIXED + [THREE, ODD]
SMALL = texts_of_kinds(152, 3, 4, 1) + [THREE, ODD]
TWOS, LAST = ((2, 1), (2, 1), (2, 1)), (NOUGHT, NOUGHT, ONE)


def is_signed(value):
    if type(value) is not tuple or len(value) != 2 or any(type(part) is not int for part in value):
        return False
    return value[1] >= 1 and math.gcd(*value) == 1


def is_row(value, many):
    return type(value) is tuple and len(value) == many and all(is_signed(part) for part in value)


def solved(rows, rights):
    """Some solution of these rows of sums; None if there is none."""
    rows = [[Fraction(part) for part in row] + [Fraction(right)] for row, right in zip(rows, rights)]
    many, places, at = len(rows[0]) - 1 if rows else 0, [], 0
    for column in range(many):
        lead = next((k for k in range(at, len(rows)) if rows[k][column]), None)
        if lead is None:
            continue
        rows[at], rows[lead] = rows[lead], rows[at]
        rows[at] = [part / rows[at][column] for part in rows[at]]
        for k in range(len(rows)):
            if k != at and rows[k][column]:
                rows[k] = [part - rows[k][column] * other for part, other in zip(rows[k], rows[at])]
        places.append(column)
        at += 1
    if any(row[-1] for row in rows[at:]):
        return None
    found = [Fraction(0)] * many
    for row, column in zip(rows, places):
        found[column] = row[-1]
    return found


class Case(unittest.TestCase):
    def spots(self, asked):
        return [(item, lot) for item, family in enumerate(asked.families) for lot in family]

    def some_plan(self, chance, asked, most=6):
        """A plan of some lots, () where there are none."""
        spots = self.spots(asked)
        chosen = sorted(chance.sample(spots, chance.randint(min(1, len(spots)), min(most, len(spots)))))
        return tuple((item, lot, told(Fraction(chance.randint(1, 12), chance.randint(1, 4)))) for item, lot in chosen)

    def counts_of(self, chance, asked):
        """Counts that a plan fits."""
        return house_loads(Store(asked.text), self.some_plan(chance, asked))

    def any_counts(self, chance, asked):
        return tuple(chance.choice([NOUGHT, told(Fraction(chance.randint(0, 9), chance.randint(1, 3)))]) for _ in range(asked.houses))

    def fits(self, asked, counts, value):
        return asked.is_plan(value) and asked.loads(value) == [read(count) for count in counts]

    def comes(self, row, lot):
        return sum((read(row[house]) for house in lot), Fraction(0))

    def heard(self, row, counts):
        return sum((read(part) * read(count) for part, count in zip(row, counts)), Fraction(0))

    def up_to(self, asked, weights, row):
        return is_row(row, asked.houses) and all(self.comes(row, lot) <= weights[item] for item, lot in self.spots(asked))

    def at_least(self, asked, weights, row):
        return is_row(row, asked.houses) and all(self.comes(row, lot) >= weights[item] for item, lot in self.spots(asked))

    def sum(self, asked, weights, plan):
        return sum((weight * rate for weight, rate in zip(weights, asked.sums(plan))), Fraction(0))

    def right_plan(self, asked, counts, value):
        if shown(value, "plan", 2):
            return self.fits(asked, counts, value[1])
        return shown(value, "quarrel", 2) and self.at_least(asked, [0] * asked.items, value[1]) and self.heard(value[1], counts) < 0

    def right_range(self, asked, counts, item, value):
        if not shown(value, "range", 5) or not all(is_fraction(rate) for rate in value[1:3]):
            return False
        weights = [int(other == item) for other in range(asked.items)]
        for rate, end, bound in ((value[1], value[3], self.up_to), (value[2], value[4], self.at_least)):
            if type(end) is not tuple or len(end) != 2 or not self.fits(asked, counts, end[0]) or not bound(asked, weights, end[1]):
                return False
            if asked.sums(end[0])[item] != read(rate) or self.heard(end[1], counts) != read(rate):
                return False
        return True

    def right_sure(self, asked, counts, weights, number, value):
        if shown(value, "surely", 2):
            return self.up_to(asked, weights, value[1]) and self.heard(value[1], counts) >= read(number)
        if shown(value, "never", 2):
            return self.at_least(asked, weights, value[1]) and self.heard(value[1], counts) < read(number)
        if not shown(value, "open", 3) or not all(self.fits(asked, counts, plan) for plan in value[1:]):
            return False
        return self.sum(asked, weights, value[1]) >= read(number) > self.sum(asked, weights, value[2])

    def right_settling(self, asked, lot, weights, value):
        if shown(value, "row", 2):
            if not self.up_to(asked, weights, value[1]) or not self.at_least(asked, weights, value[1]):
                return False
            return all(value[1][house] == NOUGHT for house in range(asked.houses) if house not in lot)
        if not shown(value, "two", 3) or not all(asked.is_plan(plan) for plan in value[1:]):
            return False
        one, other = [asked.loads(plan) for plan in value[1:]]
        return all(one[house] == other[house] for house in lot) and self.sum(asked, weights, value[1]) != self.sum(asked, weights, value[2])

    def fits_plainly(self, asked, counts, houses):
        """Whether some plan fits the counts of these houses: then one with no more lots than these houses does."""
        spots = {tuple(int(house in lot) for house in houses) for _, lot in self.spots(asked)}
        rights = [read(counts[house]) for house in houses]
        if not any(rights):
            return True
        for size in range(1, len(houses) + 1):
            for some in itertools.combinations(sorted(spots), size):
                parts = solved([list(row) for row in zip(*some)], rights)
                if parts is not None and min(parts) >= 0:
                    return True
        return False


class Plans(Case):
    def test_looked_at_by_adding(self):
        chance = random.Random(1)
        words = {}
        for text in TEXTS:
            store, asked = Store(text), Asked(text)
            for counts in (self.counts_of(chance, asked), self.counts_of(chance, asked), self.any_counts(chance, asked), self.any_counts(chance, asked)):
                value = heard_plan(store, counts)
                self.assertTrue(self.right_plan(asked, counts, value), (text, counts, value))
                self.assertIs(shows_heard_plan(store, counts, value), True)
                words[value[0]] = words.get(value[0], 0) + 1
            self.assertEqual(heard_plan(store, self.counts_of(chance, asked))[0], "plan")
            self.assertEqual(heard_plan(store, (NOUGHT,) * asked.houses), ("plan", ()))
        self.assertGreater(min(words.values()), 20)

    def test_strengths_do_not_matter(self):
        chance = random.Random(2)
        for text in TEXTS[::3]:
            asked = Asked(text)
            counts = self.any_counts(chance, asked)
            other = Store(text)
            for house in range(asked.houses):
                other = other.with_strength(house, 0)
            self.assertTrue(alike(heard_plan(other, counts), heard_plan(Store(text), counts)))

    def test_small_stores_plainly(self):
        chance = random.Random(3)
        for text in SMALL:
            asked = Asked(text)
            for _ in range(4):
                counts = self.any_counts(chance, asked)
                fits = self.fits_plainly(asked, counts, range(asked.houses))
                self.assertEqual(heard_plan(Store(text), counts)[0], "plan" if fits else "quarrel")

    def test_shown(self):
        chance = random.Random(4)
        for text in SMALL:
            store, asked = Store(text), Asked(text)
            for counts in (self.counts_of(chance, asked), self.any_counts(chance, asked)):
                check_shown(self, shows_heard_plan, (store, counts), heard_plan(store, counts),
                            lambda value: self.right_plan(asked, counts, value), chance, 150)
        store, asked = Store(THREE), Asked(THREE)
        for value, right in (
            (("plan", ((0, (0,), (2, 1)), (1, (0, 2), NOUGHT))), False), (("plan", ((0, (0,), (2, 1)), (0, (1, 2), (2, 1)))), True),
            (("plan", ((0, (0,), (1, 1)), (0, (1, 2), ONE), (1, (0, 2), ONE), (1, (1,), ONE))), True), (("plan", ()), False),
            (("quarrel", ((-1, 1), NOUGHT, NOUGHT)), False), (("quarrel", ((0, 2), NOUGHT, NOUGHT)), False),
        ):
            self.assertIs(shows_heard_plan(store, TWOS, value), right, value)
            self.assertIs(self.right_plan(asked, TWOS, value), right, value)
        for row, right in (((ONE, ONE, (-1, 1)), True), (((2, 1), (3, 2), (-3, 2)), True), ((NOUGHT, NOUGHT, (-1, 1)), False), ((ONE, ONE, NOUGHT), False),
                           ((ONE, ONE, (-2, 2)), False), ((ONE, ONE, (1, -1)), False), ((ONE, ONE), False), ([ONE, ONE, (-1, 1)], False)):
            self.assertIs(shows_heard_plan(store, LAST, ("quarrel", row)), right, row)


class Ranges(Case):
    def test_looked_at_by_adding(self):
        chance = random.Random(5)
        wide = 0
        for text in TEXTS:
            store, asked = Store(text), Asked(text)
            counts = self.counts_of(chance, asked)
            for item in range(asked.items):
                value = heard_range(store, counts, item)
                self.assertTrue(self.right_range(asked, counts, item, value), (text, counts, item, value))
                self.assertIs(shows_heard_range(store, counts, item, value), True)
                self.assertLessEqual(read(value[1]), read(value[2]))
                wide += value[1] != value[2]
                if not asked.families[item]:
                    self.assertEqual(value[1:3], (NOUGHT, NOUGHT))
        self.assertGreater(wide, 10)

    def test_by_hand(self):
        store = Store(THREE)
        value = heard_range(store, TWOS, 1)
        self.assertEqual(value[1:3], (NOUGHT, (4, 1)))
        # The counts of one and two come to all asks, however a and b share them.
        self.assertEqual(heard_range(store, ((3, 1), (1, 2), NOUGHT), 0)[1:3], ((3, 1), (3, 1)))
        self.assertEqual(heard_range(store, ((3, 1), (1, 2), (1, 2)), 0)[1:3], ((5, 2), (7, 2)))
        check_raises(self, Quarrel, LAST, heard_range, store, LAST, 0)
        check_raises(self, Quarrel, LAST, shows_heard_range, store, LAST, 0, None)

    def test_great_counts(self):
        store, asked = Store(THREE), Asked(THREE)
        counts = ((999999999, 999999998), (999999997, 2), (10 ** 30 + 1, 10 ** 30))
        value = heard_range(store, counts, 0)
        self.assertTrue(self.right_range(asked, counts, 0, value))
        self.assertIs(shows_heard_range(store, counts, 0, value), True)

    def test_shown(self):
        chance = random.Random(6)
        for text in SMALL:
            store, asked = Store(text), Asked(text)
            counts, item = self.counts_of(chance, asked), chance.randrange(asked.items)
            check_shown(self, shows_heard_range, (store, counts, item), heard_range(store, counts, item),
                        lambda value: self.right_range(asked, counts, item, value), chance, 200)


class Sure(Case):
    def test_just_at_the_bounds(self):
        chance = random.Random(7)
        words = {}
        for text in TEXTS[::2]:
            store, asked = Store(text), Asked(text)
            counts = self.counts_of(chance, asked)
            weights = tuple(chance.randint(-9, 9) for _ in range(asked.items))
            ends = self.bounds(store, asked, counts, weights)
            tiny = Fraction(1, 10 ** 6)
            for number, word in ((ends[0], "surely"), (ends[0] - tiny, "surely"), (ends[1] + tiny, "never"),
                                 (ends[1], "surely" if ends[0] == ends[1] else "open"), (ends[0] + tiny, "never" if ends[0] == ends[1] else "open"),
                                 ((ends[0] + ends[1]) / 2, "surely" if ends[0] == ends[1] else "open")):
                value = heard_sure(store, counts, weights, told(number))
                self.assertEqual(value[0], word, (text, counts, weights, number))
                self.assertTrue(self.right_sure(asked, counts, weights, told(number), value), (text, counts, weights, number, value))
                self.assertIs(shows_heard_sure(store, counts, weights, told(number), value), True)
                words[word] = words.get(word, 0) + 1
        self.assertGreater(min(words["open"], words["never"], words["surely"]), 12)

    def bounds(self, store, asked, counts, weights):
        """The least and the greatest sum, sought by halving: what is sure, and what is never."""
        found = []
        for is_beyond in (lambda word: word != "surely", lambda word: word == "never"):
            most = 10 * sum(map(read, counts)) + 1
            low, high = -most, most
            for _ in range(48):
                middle = (low + high) / 2
                if is_beyond(heard_sure(store, counts, weights, told(middle))[0]):
                    high = middle
                else:
                    low = middle
            # Sums are fractions with no great lows, as all counts are.
            near = ((low + high) / 2).limit_denominator(10 ** 4)
            found.append(near)
        return found

    def test_ranges_are_weights_of_one_item(self):
        chance = random.Random(8)
        for text in TEXTS[::2]:
            store, asked = Store(text), Asked(text)
            counts, item = self.counts_of(chance, asked), chance.randrange(asked.items)
            weights = tuple(int(other == item) for other in range(asked.items))
            _, least, greatest, _, _ = heard_range(store, counts, item)
            self.assertEqual(heard_sure(store, counts, weights, least)[0], "surely")
            self.assertEqual(heard_sure(store, counts, weights, told(read(greatest) + 1))[0], "never")
            more = tuple(-weight for weight in weights)
            self.assertEqual(heard_sure(store, counts, more, (-greatest[0], greatest[1]))[0], "surely")
            self.assertEqual(heard_sure(store, counts, more, told(1 - read(least)))[0], "never")

    def test_noughts_and_items_that_are_out(self):
        store = Store(ODD)
        counts = ((2, 1), NOUGHT, (7, 2))
        for weights in ((0, 0, 0), (0, 5, -3), (0, -9, 9)):
            self.assertEqual(heard_sure(store, counts, weights, NOUGHT)[0], "surely")
            self.assertEqual(heard_sure(store, counts, weights, (1, 9))[0], "never")
            self.assertEqual(heard_sure(store, counts, weights, (-1, 9))[0], "surely")

    def test_shown(self):
        chance = random.Random(9)
        for text in SMALL:
            store, asked = Store(text), Asked(text)
            counts = self.counts_of(chance, asked)
            weights = tuple(chance.randint(-3, 3) for _ in range(asked.items))
            for number in (told(chance.randint(-4, 9)), (5, 2)):
                check_shown(self, shows_heard_sure, (store, counts, weights, number), heard_sure(store, counts, weights, number),
                            lambda value: self.right_sure(asked, counts, weights, number, value), chance, 120)
        store = Store(THREE)
        plans = ((0, (0,), (2, 1)), (0, (1, 2), (2, 1))), ((1, (0, 2), (2, 1)), (1, (1,), (2, 1)))
        for value, right in ((("open", *plans), True), (("open", *plans[::-1]), False), (("open", plans[0], plans[0]), False),
                             (("surely", (ONE, NOUGHT, NOUGHT)), False), (("never", (ONE, ONE, NOUGHT)), False)):
            self.assertIs(shows_heard_sure(store, TWOS, (1, 0), ONE, value), right, value)


class Settling(Case):
    def plainly_settled(self, asked, lot, weights):
        spots = self.spots(asked)
        if not spots:
            return True
        if not lot:
            return all(weights[item] == 0 for item, _ in spots)
        return solved([[int(house in held) for house in lot] for _, held in spots], [weights[item] for item, _ in spots]) is not None

    def test_both_words_for_all_lots_of_small_stores(self):
        chance = random.Random(10)
        words = {"row": 0, "two": 0}
        for text in SMALL:
            store, asked = Store(text), Asked(text)
            for lot in all_lots(asked.houses):
                for _ in range(3):
                    weights = tuple(chance.choice([0, 1, chance.randint(-9, 9)]) for _ in range(asked.items))
                    value = settling(store, lot, weights)
                    self.assertTrue(self.right_settling(asked, lot, weights, value), (text, lot, weights, value))
                    self.assertIs(shows_settling(store, lot, weights, value), True)
                    self.assertEqual(value[0] == "row", self.plainly_settled(asked, lot, weights))
                    words[value[0]] += 1
        self.assertGreater(min(words.values()), 50)

    def test_greater_stores(self):
        chance = random.Random(11)
        for text in TEXTS:
            store, asked = Store(text), Asked(text)
            for _ in range(4):
                lot = tuple(sorted(chance.sample(range(asked.houses), chance.randint(0, asked.houses))))
                weights = tuple(chance.choice([0, 1, chance.randint(-9, 9)]) for _ in range(asked.items))
                value = settling(store, lot, weights)
                self.assertTrue(self.right_settling(asked, lot, weights, value), (text, lot, weights, value))
                self.assertIs(shows_settling(store, lot, weights, value), True)

    def test_settled_is_told_by_the_counts(self):
        # The sum of a plan is what its counts come to by the row.
        chance = random.Random(12)
        for text in TEXTS:
            store, asked = Store(text), Asked(text)
            for row in settled_sums(store, tuple(range(asked.houses))):
                if max(map(abs, row)) <= 9:
                    word, settled = settling(store, tuple(range(asked.houses)), row)
                    self.assertEqual(word, "row")
                    plan = self.some_plan(chance, asked)
                    self.assertEqual(self.heard(settled, house_loads(store, plan)), self.sum(asked, row, plan))

    def test_shown(self):
        chance = random.Random(13)
        for text in SMALL:
            store, asked = Store(text), Asked(text)
            for _ in range(2):
                lot = chance.choice(all_lots(asked.houses))
                weights = tuple(chance.choice([0, 1, chance.randint(-9, 9)]) for _ in range(asked.items))
                check_shown(self, shows_settling, (store, lot, weights), settling(store, lot, weights),
                            lambda value: self.right_settling(asked, lot, weights, value), chance, 150)
        store = Store(THREE)
        plans = ((0, (0,), ONE),), ((1, (1,), ONE),)
        for lot, weights, value, right in (
            ((0, 1), (1, 1), ("row", (ONE, ONE, NOUGHT)), True), ((0, 1), (1, 1), ("row", (ONE, ONE, ONE)), False),
            ((0,), (1, 1), ("row", (ONE, ONE, NOUGHT)), False), ((0, 1, 2), (2, 2), ("row", ((2, 1), (2, 1), NOUGHT)), True),
            ((0, 1), (0, 0), ("row", (NOUGHT, NOUGHT, NOUGHT)), True), ((), (0, 0), ("row", (NOUGHT, NOUGHT, NOUGHT)), True),
            ((), (1, 0), ("two", plans[0], ()), True), ((), (1, 0), ("two", (), plans[0]), True), ((), (1, 1), ("two", *plans), False),
            ((2,), (1, 0), ("two", *plans), True), ((0,), (1, 0), ("two", *plans), False), ((2,), (1, 0), ("two", (), ()), False),
        ):
            self.assertIs(shows_settling(store, lot, weights, value), right, value)
            self.assertIs(self.right_settling(Asked(THREE), lot, weights, value), right, value)


class Bases(Case):
    def test_settling_lots(self):
        chance = random.Random(14)
        kinds = set()
        for text in [text for text in TEXTS if Asked(text).houses <= 6] + SMALL:
            store, asked = Store(text), Asked(text)
            for _ in range(3):
                weights = tuple(chance.choice([0, 1, chance.randint(-9, 9)]) for _ in range(asked.items))
                settled = [lot for lot in all_lots(asked.houses) if settling(store, lot, weights)[0] == "row"]
                least = tuple(lot for lot in settled if not any(set(other) < set(lot) for other in settled))
                value = settling_lots(store, weights)
                self.assertTrue(alike(value, least), (text, weights))
                kinds.add((bool(value), value == ((),)))
        self.assertEqual(len(kinds), 3)
        self.assertEqual(settling_lots(Store(ODD), (0, 0, 5)), ((),))
        self.assertEqual(settling_lots(Store(ODD), (0, 4, 5)), ((1,),))
        self.assertEqual(settling_lots(Store(THREE), (0, 0)), ((),))
        self.assertEqual(settling_lots(Store(THREE), (1, 0)), ())
        self.assertEqual(settling_lots(Store("items a\nhouse p 1 a\nhouse q 1 a"), (3,)), ((0, 1),))

    def test_settled_sums(self):
        found = set()
        for text in SMALL + TEXTS[::2]:
            store, asked = Store(text), Asked(text)
            lots = all_lots(asked.houses) if asked.houses <= 4 else [tuple(range(asked.houses)), tuple(range(asked.houses - 1)), (0, 1)]
            for lot in lots:
                value = settled_sums(store, lot)
                self.check_steps(asked, value)
                found.add(len(value))
                for row in value:
                    self.assertTrue(self.plain_settled(asked, lot, row), (text, lot, value))
                for weights in itertools.product((-1, 0, 1, 2) if asked.items < 4 else (0, 1), repeat=asked.items):
                    clean = [weight if asked.families[item] else 0 for item, weight in enumerate(weights)]
                    self.assertEqual(self.plain_settled(asked, lot, weights), self.is_sum(value, clean), (text, lot, weights))
        self.assertTrue({0, 1, 2} <= found)

    def check_steps(self, asked, value):
        self.assertIs(type(value), tuple)
        places = []
        for row in value:
            self.assertTrue(type(row) is tuple and len(row) == asked.items and all(type(part) is int for part in row))
            place = next(at for at, part in enumerate(row) if part)
            self.assertGreater(row[place], 0)
            self.assertEqual(math.gcd(*row), 1)
            self.assertTrue(not places or place > places[-1])
            self.assertTrue(all(other[place] == 0 for other in value if other is not row))
            self.assertTrue(all(row[item] == 0 for item, family in enumerate(asked.families) if not family))
            places.append(place)

    def plain_settled(self, asked, lot, weights):
        return Settling.plainly_settled(self, asked, lot, weights)

    def is_sum(self, rows, weights):
        if not rows:
            return not any(weights)
        return solved([list(column) for column in zip(*rows)], weights) is not None

    def test_by_hand(self):
        self.assertEqual(settled_sums(Store(THREE), (0, 1, 2)), ((1, 1),))
        self.assertEqual(settled_sums(Store(ODD), (0, 1, 2)), ((1, 0, 0), (0, 1, 0)))
        self.assertEqual(settled_sums(Store(ODD), (0, 1)), ((0, 1, 0),))
        copies = Store("items a b c\nhouse p 1 a\nhouse q 1 b\nhouse r 1 c")
        self.assertEqual(settled_sums(copies, (0, 1, 2)), ((1, 0, 0), (0, 1, 0), (0, 0, 1)))
        self.assertEqual(settled_sums(copies, (0, 2)), ((1, 0, 0), (0, 0, 1)))
        self.assertEqual(settled_sums(copies, ()), ())
        # An ask of a or b is one of p, of c two of p and q: their counts tell a + b and c.
        self.assertEqual(settled_sums(Store("items a b\nhouse p 1 a b\nhouse q 1 a+b"), (0,)), ((1, 1),))
        twos = Store("items a b\nhouse p 1 a\nhouse q 1 a+b")
        self.assertEqual(settled_sums(twos, (0,)), ((1, 1),))
        self.assertEqual(settled_sums(twos, (0, 1)), ((1, 0), (0, 1)))
        self.assertEqual(settled_sums(twos, (1,)), ((0, 1),))


class Wrong(Case):
    def right_wrong(self, asked, counts, size, value):
        if not shown(value, "wrong", 3) or not is_lot(value[1], asked.houses) or len(value[1]) != size or not asked.is_plan(value[2]):
            return False
        loads = asked.loads(value[2])
        return all(loads[house] == read(counts[house]) for house in range(asked.houses) if house not in value[1])

    def least_size(self, asked, counts):
        """The fewest houses without which some plan fits, by going through all lots."""
        for size in range(asked.houses + 1):
            for lot in all_lots(asked.houses, [size]):
                if self.fits_plainly(asked, counts, [house for house in range(asked.houses) if house not in lot]):
                    return size

    def test_small_stores_plainly(self):
        chance = random.Random(15)
        sizes = {}
        for text in SMALL:
            store, asked = Store(text), Asked(text)
            for counts in (self.counts_of(chance, asked), self.any_counts(chance, asked), self.any_counts(chance, asked)):
                size = self.least_size(asked, counts)
                value = wrong_counts(store, counts)
                self.assertTrue(self.right_wrong(asked, counts, size, value), (text, counts, value))
                self.assertIs(shows_wrong_counts(store, counts, value), True)
                sizes[size] = sizes.get(size, 0) + 1
        self.assertTrue({0, 1, 2} <= set(sizes))

    def test_one_and_two_counts_otherwise(self):
        chance = random.Random(16)
        sizes = set()
        for text in [text for text in TEXTS if Asked(text).houses <= 6]:
            store, asked = Store(text), Asked(text)
            counts = self.counts_of(chance, asked)
            right = wrong_counts(store, counts)
            self.assertEqual(right[1], ())
            self.assertTrue(self.fits(asked, counts, right[2]))
            for many in (1, 2):
                bent = list(counts)
                for house in chance.sample(range(asked.houses), many):
                    bent[house] = told(read(bent[house]) + chance.randint(1, 5))
                value = wrong_counts(store, tuple(bent))
                self.assertLessEqual(len(value[1]), many)
                self.assertTrue(self.right_wrong(asked, bent, len(value[1]), value))
                self.assertIs(shows_wrong_counts(store, tuple(bent), value), True)
                sizes.add(len(value[1]))
        self.assertEqual(sizes, {0, 1, 2})

    def test_by_hand(self):
        store = Store(THREE)
        self.assertEqual(len(wrong_counts(store, LAST)[1]), 1)
        for value, right in ((("wrong", (2,), ()), True), (("wrong", (0,), ((1, (0, 2), ONE),)), True), (("wrong", (1,), ((0, (1, 2), ONE),)), True),
                             (("wrong", (0, 1), ((0, (1, 2), ONE),)), False), (("wrong", (), ()), False), (("wrong", [2], ()), False),
                             (("wrong", (0,), ((1, (0, 2), HALF),)), False), (("wrong", (0,), ((1, (0, 2), ONE), (1, (1,), ONE))), False)):
            self.assertIs(shows_wrong_counts(store, LAST, value), right, value)
        # Who asks q asks p or r, too.
        self.assertEqual(wrong_counts(Store(ODD), (ONE, (2, 1), ONE))[1], ())
        self.assertEqual(len(wrong_counts(Store(ODD), (ONE, (3, 1), ONE))[1]), 1)
        self.assertIs(shows_wrong_counts(Store(ODD), (ONE, (3, 1), ONE), ("wrong", (1,), ((0, (0,), ONE), (0, (2,), ONE)))), True)
        nothing = Store("items a b\nhouse p 1 a+b\nhouse q 1 a+b")
        self.assertEqual(wrong_counts(nothing, (ONE, HALF)), ("wrong", (0, 1), ()))
        self.assertEqual(wrong_counts(nothing, (ONE, NOUGHT)), ("wrong", (0,), ()))

    def test_shown(self):
        chance = random.Random(17)
        for text in SMALL:
            store, asked = Store(text), Asked(text)
            counts = self.any_counts(chance, asked)
            size = self.least_size(asked, counts)
            check_shown(self, shows_wrong_counts, (store, counts), wrong_counts(store, counts),
                        lambda value: self.right_wrong(asked, counts, size, value), chance, 150)


class Errors(unittest.TestCase):
    def test_sequence(self):
        store, few, weights = Store(THREE), (ONE, ONE), (1, 0)
        for call, more in ((heard_range, ()), (shows_heard_range, (None,))):
            check_raises(self, BadCounts, few, call, store, few, 9, *more)
            check_raises(self, BadItem, 2, call, store, LAST, 2, *more)
            check_raises(self, Quarrel, LAST, call, store, LAST, 1, *more)
        for call, more in ((heard_sure, ()), (shows_heard_sure, (None,))):
            check_raises(self, BadCounts, few, call, store, few, (10, 0), None, *more)
            check_raises(self, BadWeights, (10, 0), call, store, LAST, (10, 0), None, *more)
            check_raises(self, BadWeights, (True, 0), call, store, TWOS, (True, 0), None, *more)
            check_raises(self, BadFraction, (2, 2), call, store, LAST, weights, (2, 2), *more)
            check_raises(self, BadFraction, 1, call, store, LAST, weights, 1, *more)
            check_raises(self, BadFraction, (1, -1), call, store, LAST, weights, (1, -1), *more)
            check_raises(self, Quarrel, LAST, call, store, LAST, weights, (-5, 7), *more)
        for call, more in ((settling, ()), (shows_settling, (None,))):
            check_raises(self, BadLot, (1, 0), call, store, (1, 0), None, *more)
            check_raises(self, BadWeights, (1,), call, store, (0, 1), (1,), *more)
        check_raises(self, BadLot, (3,), settled_sums, store, (3,))

    def test_wide(self):
        seven = Store("items a b\n" + "\n".join(f"house h{LETTERS[at]} 1 a" for at in range(7)))
        check_raises(self, BadWeights, (1,), settling_lots, seven, (1,))
        check_raises(self, Wide, 6, settling_lots, seven, (1, 0))
        check_raises(self, Wide, 6, settling_lots, seven, (0, 0))
        for call, more in ((wrong_counts, ()), (shows_wrong_counts, (None,))):
            check_raises(self, BadCounts, LAST, call, seven, LAST, *more)
            check_raises(self, Wide, 6, call, seven, (ONE,) * 7, *more)
        self.assertEqual(heard_plan(seven, (ONE,) * 7)[0], "plan")
        self.assertEqual(settled_sums(seven, tuple(range(7))), ((1, 0),))
        self.assertEqual(settling(seven, tuple(range(7)), (9, 9))[0], "row")

    def test_counts_of_any_size_and_sign(self):
        store = Store(THREE)
        great = ((10 ** 40, 10 ** 39 + 1), ONE, NOUGHT)
        self.assertEqual(heard_plan(store, great)[0], "plan")
        for value in ((ONE, ONE, (-1, 1)), (ONE, ONE, (2, 2)), [ONE] * 3):
            self.assertFalse(are_fractions(value, 3))
            check_raises(self, BadCounts, value, heard_plan, store, value)
            check_raises(self, BadCounts, value, shows_heard_plan, store, value, None)
        for value in any_values():
            check_raises(self, BadCounts, value, heard_plan, store, value)


if __name__ == "__main__":
    unittest.main()
