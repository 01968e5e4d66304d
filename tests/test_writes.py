"""Section 13: reads and writes borne together, the strain by the share, and which of two stores has less of it."""

import random
import unittest
from fractions import Fraction

from sumshelves.errors import BadRates, OtherItems
from sumshelves.plans import borne
from sumshelves.stores import Store, having
from sumshelves.strains import stretches_of, together, with_writes
from sumshelves.shares import strengths_of
from sumshelves.writes import better_shares, borne_writes, shows_borne_writes, shows_strain_line, strain_line
from tests.asking import (
    HALF, NOUGHT, ONE, Asked, are_fractions, check_shown, made, made_rates, read, shown, texts_of_kinds, times_rates, told,
)
from tests.plain import Plain, alike, any_values, check_raises, made_text

TWO = "items a\nhouse x 1 a\nhouse y 1 a"
THREE = TWO + "\nhouse z 1 a"
SUMS = "items a b\nhouse one 2 a\nhouse two 2 b\nhouse three 1 a+b"
ODD = "items a b c\nhouse p 3 a\nhouse q 0 a+b\nhouse r 9 a"
WEAK = "items a b\nhouse p 0 a\nhouse q 0 b"
MIXED = [made_text(random.Random(at), 2 + at % 3, 4 + at % 5, 2) for at in range(16)]
TEXTS = texts_of_kinds(131, often=1) + MIXED + [SUMS, ODD, WEAK]
SMALL = texts_of_kinds(132, 2, 4, 1)


class Case(unittest.TestCase):
    def write_loads(self, text, writes):
        """What the writes ask of each house."""
        plain = Plain(text)
        return [sum((read(rate) for item, rate in enumerate(writes) if any(item in piece for piece in pieces)), Fraction(0))
                for pieces in plain.pieces]

    def bears(self, asked, reads, writes, plan, strain=Fraction(1)):
        """Whether this is a plan of the reads that is borne together with the writes at strengths so often taken."""
        if not asked.is_plan(plan) or asked.sums(plan) != [read(rate) for rate in reads]:
            return False
        loads = zip(asked.loads(plan), self.write_loads(asked.text, writes), asked.strengths)
        return all(load + more <= strength * strain for load, more, strength in loads)

    def costs(self, asked, reads, writes, prices):
        more = sum(load * read(price) for load, price in zip(self.write_loads(asked.text, writes), prices))
        return asked.cost(reads, prices), more

    def right_borne(self, asked, reads, writes, value):
        if shown(value, "plan", 2):
            return self.bears(asked, reads, writes, value[1])
        if shown(value, "prices", 2):
            if asked.out(reads) is not None or not asked.are_prices(value[1]):
                return False
            return sum(self.costs(asked, reads, writes, value[1])) > asked.worth(value[1])
        return asked.is_out(reads, value)

    def right_line(self, asked, reads, writes, value):
        if asked.out(reads) is not None:
            return asked.is_out(reads, value)
        if shown(value, "never", 2):
            return asked.are_prices(value[1]) and asked.worth(value[1]) == 0 and sum(self.costs(asked, reads, writes, value[1])) > 0
        if not shown(value, "line", 4):
            return False
        _, corners, plans, prices = value
        if not all(type(part) is tuple for part in value[1:]) or not len(corners) == len(plans) == len(prices) + 1 > 1:
            return False
        if not all(are_fractions(corner, 2) for corner in corners) or not all(asked.are_prices(row) for row in prices):
            return False
        points = [tuple(map(read, corner)) for corner in corners]
        if points[0][0] != 0 or points[-1][0] != 1 or any(one[0] >= other[0] for one, other in zip(points, points[1:])):
            return False
        for (share, strain), plan in zip(points, plans):
            if not self.bears(asked, times_rates(reads, told(1 - share)), times_rates(writes, told(share)), plan, strain):
                return False
        for row, ends in zip(prices, zip(points, points[1:])):
            one, other = self.costs(asked, reads, writes, row)
            if asked.worth(row) != (1 if any(asked.strengths) else 0):
                return False
            if any((1 - share) * one + share * other != strain for share, strain in ends):
                return False
        slopes = [(two[1] - one[1]) / (two[0] - one[0]) for one, two in zip(points, points[1:])]
        return all(slope < steeper for slope, steeper in zip(slopes, slopes[1:]))

    def strain_on(self, corners, share):
        """The strain at a share by the told corners."""
        points = [tuple(map(read, corner)) for corner in corners]
        for (one, low), (two, high) in zip(points, points[1:]):
            if one <= share <= two:
                return low + (high - low) * (share - one) / (two - one)

    def rates(self, chance, asked):
        """Reads of items that are not out, and writes of any."""
        reads = made_rates(chance, asked.items)
        reads = tuple(rate if asked.families[item] else NOUGHT for item, rate in enumerate(reads))
        return reads, made_rates(chance, asked.items, 2)


class Borne(Case):
    def test_looked_at_by_adding(self):
        chance = random.Random(1)
        words = {}
        for text in TEXTS:
            store, asked = Store(text), Asked(text)
            for _ in range(6):
                reads, writes = made_rates(chance, asked.items, 3), made_rates(chance, asked.items, 2)
                value = borne_writes(store, reads, writes)
                self.assertTrue(self.right_borne(asked, reads, writes, value), (text, reads, writes, value))
                self.assertIs(shows_borne_writes(store, reads, writes, value), True)
                words[value[0]] = words.get(value[0], 0) + 1
        self.assertGreater(min(words["plan"], words["prices"], words["out"]), 20)

    def test_beside_borne_of_strengths_less_the_writes(self):
        chance = random.Random(2)
        words = set()
        for text in TEXTS:
            store, asked = Store(text), Asked(text)
            for _ in range(5):
                writes = tuple(chance.choice([NOUGHT, ONE, NOUGHT, (2, 1)]) for _ in range(asked.items))
                reads = made_rates(chance, asked.items, 4)
                less = store
                left = [int(number - load) for number, load in zip(asked.strengths, self.write_loads(text, writes))]
                if min(left) < 0:
                    self.assertEqual(borne_writes(store, reads, writes)[0], "out" if asked.out(reads) is not None else "prices")
                    words.add("below")
                    continue
                for house, number in enumerate(left):
                    less = less.with_strength(house, number)
                self.assertEqual(borne_writes(store, reads, writes)[0], borne(less, reads)[0])
                words.add(borne(less, reads)[0])
                if borne(less, reads)[0] == "plan":
                    self.assertIs(shows_borne_writes(store, reads, writes, borne(less, reads)), True)
        self.assertEqual(words, {"below", "plan", "prices", "out"})

    def test_reads_alone_writes_alone_and_none(self):
        chance = random.Random(3)
        for text in TEXTS:
            store, asked = Store(text), Asked(text)
            none = (NOUGHT,) * asked.items
            reads = made_rates(chance, asked.items, 4)
            self.assertEqual(borne_writes(store, reads, none)[0], borne(store, reads)[0])
            self.assertIs(shows_borne_writes(store, reads, none, borne(store, reads)), True)
            self.assertEqual(borne_writes(store, none, none), ("plan", ()))
            writes = made_rates(chance, asked.items, 3)
            fit = all(load <= strength for load, strength in zip(self.write_loads(text, writes), asked.strengths))
            self.assertEqual(borne_writes(store, none, writes)[0], "plan" if fit else "prices")
            if fit:
                self.assertEqual(borne_writes(store, none, writes), ("plan", ()))

    def test_by_hand(self):
        store = Store(ODD)
        # b is had of q and another one; c is had of no house at all.
        self.assertEqual(borne_writes(store, (NOUGHT, NOUGHT, HALF), (NOUGHT, (9, 1), NOUGHT)), ("out", 2))
        self.assertEqual(borne_writes(store, (ONE, NOUGHT, NOUGHT), (NOUGHT, NOUGHT, (99, 1)))[0], "plan")
        self.assertEqual(having(store, 1), (1,))
        for value in (("prices", (NOUGHT, ONE, NOUGHT)), ("prices", (NOUGHT, (7, 2), NOUGHT))):
            self.assertIs(shows_borne_writes(store, (ONE, NOUGHT, NOUGHT), (NOUGHT, HALF, NOUGHT), value), True)
        self.assertIs(shows_borne_writes(store, (ONE, NOUGHT, NOUGHT), (NOUGHT, HALF, NOUGHT), ("prices", (ONE, NOUGHT, NOUGHT))), False)
        self.assertIs(shows_borne_writes(store, (NOUGHT, NOUGHT, HALF), (NOUGHT, HALF, NOUGHT), ("prices", (NOUGHT, ONE, NOUGHT))), False)
        full = borne_writes(Store(SUMS), (ONE, ONE), (ONE, NOUGHT))
        self.assertEqual(full, ("plan", ((0, (0,), ONE), (1, (1,), ONE))))
        self.assertIs(shows_borne_writes(Store(SUMS), (ONE, ONE), (ONE, NOUGHT), ("plan", ((0, (1, 2), ONE), (1, (1,), ONE)))), False)
        # A house with two pieces of the item is asked once.
        both = Store("items a b\nhouse p 1 a a+b\nhouse q 1 a+b b")
        self.assertEqual(borne_writes(both, (NOUGHT, NOUGHT), (ONE, NOUGHT)), ("plan", ()))
        self.assertEqual(borne_writes(both, (NOUGHT, NOUGHT), (HALF, HALF)), ("plan", ()))
        self.assertEqual(borne_writes(both, (NOUGHT, NOUGHT), (HALF, ONE))[0], "prices")

    def test_shown_with_values_near(self):
        chance = random.Random(4)
        for text in SMALL + [SUMS, ODD]:
            store, asked = Store(text), Asked(text)
            for most in (1, 3):
                reads, writes = made_rates(chance, asked.items, most), made_rates(chance, asked.items, 1)
                value = borne_writes(store, reads, writes)
                check_shown(self, shows_borne_writes, (store, reads, writes), value,
                            lambda other: self.right_borne(asked, reads, writes, other), chance, 200)

    def test_plans_of_writes_are_none(self):
        # What stands for writes behind the items is no plan's row.
        store = Store(SUMS)
        value = ("plan", ((0, (0,), ONE), (2, (0, 2), ONE)))
        self.assertIs(shows_borne_writes(store, (ONE, NOUGHT), (NOUGHT, NOUGHT), value), False)
        self.assertIs(shows_borne_writes(store, (ONE, NOUGHT), (ONE, NOUGHT), value), False)


class Lines(Case):
    def test_looked_at_by_adding(self):
        chance = random.Random(5)
        words, bent = {}, 0
        for text in TEXTS:
            store, asked = Store(text), Asked(text)
            for _ in range(4):
                reads, writes = made_rates(chance, asked.items, 3), made_rates(chance, asked.items, 2)
                value = strain_line(store, reads, writes)
                self.assertTrue(self.right_line(asked, reads, writes, value), (text, reads, writes, value))
                self.assertIs(shows_strain_line(store, reads, writes, value), True)
                words[value[0]] = words.get(value[0], 0) + 1
                bent += value[0] == "line" and len(value[1]) > 2
        self.assertGreater(min(words["line"], words["never"], words["out"], bent), 8)

    def test_at_shares_beside_what_is_borne(self):
        chance = random.Random(6)
        for text in TEXTS:
            store, asked = Store(text), Asked(text)
            reads, writes = self.rates(chance, asked)
            value = strain_line(store, reads, writes)
            shares = [Fraction(0), Fraction(1), Fraction(1, 3), Fraction(chance.randint(1, 99), 100)]
            if value[0] == "line":
                shares += [read(corner[0]) for corner in value[1]]
            for share in shares:
                some, more = times_rates(reads, told(1 - share)), times_rates(writes, told(share))
                if value[0] == "never":
                    if 0 < share < 1:
                        tiny = (1, 10 ** 6)
                        self.assertEqual(borne_writes(store, times_rates(some, tiny), times_rates(more, tiny))[0], "prices")
                    continue
                strain = self.strain_on(value[1], share)
                if strain == 0:
                    self.assertEqual(borne_writes(store, times_rates(some, (999, 1)), times_rates(more, (999, 1))), ("plan", ()))
                    continue
                often, beyond = told(1 / strain), told(1001 / strain / 1000)
                self.assertEqual(borne_writes(store, times_rates(some, often), times_rates(more, often))[0], "plan", (text, share))
                self.assertEqual(borne_writes(store, times_rates(some, beyond), times_rates(more, beyond))[0], "prices", (text, share))

    def test_copies(self):
        # f times the strengths bear w of all houses, and r of what is left.
        chance = random.Random(7)
        bent = 0
        for _ in range(60):
            strengths = [chance.randint(1, 9) for _ in range(chance.randint(2, 8))]
            store = Store(made("a", [(strength, "a") for strength in strengths]))
            reads, writes = Fraction(chance.randint(0, 9)), Fraction(chance.randint(0, 9), 2)
            corners = strain_line(store, (told(reads),), (told(writes),))[1]
            for share in [Fraction(at, 20) for at in range(21)] + [read(corner[0]) for corner in corners]:
                weak = share * writes / min(strengths)
                mean = ((1 - share) * reads + len(strengths) * share * writes) / sum(strengths)
                self.assertEqual(self.strain_on(corners, share), max(weak, mean))
            bent += len(corners) > 2
        self.assertGreater(bent, 10)

    def test_never(self):
        store = Store(ODD)
        self.assertEqual(strain_line(store, (ONE, NOUGHT, NOUGHT), (NOUGHT, ONE, NOUGHT))[0], "never")
        self.assertEqual(strain_line(store, (NOUGHT, ONE, NOUGHT), (NOUGHT, NOUGHT, NOUGHT))[0], "never")
        self.assertEqual(strain_line(store, (NOUGHT, ONE, ONE), (NOUGHT, ONE, NOUGHT)), ("out", 2))
        # Who changes a asks q, too, as it has a + b.
        word, prices = strain_line(store, (ONE, NOUGHT, NOUGHT), (ONE, NOUGHT, NOUGHT))
        self.assertEqual((word, prices[0], prices[2]), ("never", NOUGHT, NOUGHT))
        # Writes of what no house has are none.
        self.assertEqual(strain_line(store, (ONE, NOUGHT, NOUGHT), (NOUGHT, NOUGHT, ONE))[1], ((NOUGHT, (1, 12)), (ONE, NOUGHT)))
        weak = Store(WEAK)
        self.assertEqual(strain_line(weak, (NOUGHT, NOUGHT), (NOUGHT, ONE))[0], "never")
        none = strain_line(weak, (NOUGHT, NOUGHT), (NOUGHT, NOUGHT))
        self.assertEqual(none[:3], ("line", ((NOUGHT, NOUGHT), (ONE, NOUGHT)), ((), ())))
        for prices, right in (((NOUGHT, NOUGHT), True), ((ONE, HALF), True), ((ONE, (1, -2)), False), ((ONE,), False)):
            self.assertIs(shows_strain_line(weak, (NOUGHT, NOUGHT), (NOUGHT, NOUGHT), none[:3] + ((prices,),)), right)
        for prices, right in (((NOUGHT, ONE), True), ((ONE, HALF), True), ((ONE, NOUGHT), False), ((NOUGHT, NOUGHT), False)):
            self.assertIs(shows_strain_line(weak, (NOUGHT, NOUGHT), (NOUGHT, ONE), ("never", prices)), right)
        self.assertIs(shows_strain_line(store, (ONE, NOUGHT, NOUGHT), (ONE, NOUGHT, NOUGHT), ("never", ((1, 99), ONE, NOUGHT))), False)

    def test_no_rates(self):
        for text in TEXTS:
            store, asked = Store(text), Asked(text)
            none = (NOUGHT,) * asked.items
            value = strain_line(store, none, none)
            self.assertEqual(value[:3], ("line", ((NOUGHT, NOUGHT), (ONE, NOUGHT)), ((), ())))
            self.assertTrue(self.right_line(asked, none, none, value))

    def test_reads_alone_and_writes_alone_go_straight(self):
        chance = random.Random(8)
        for text in TEXTS:
            store, asked = Store(text), Asked(text)
            reads, writes = self.rates(chance, asked)
            none = (NOUGHT,) * asked.items
            for value in (strain_line(store, reads, none), strain_line(store, none, writes)):
                if value[0] == "line":
                    self.assertEqual(len(value[1]), 2)
                    self.assertIn(NOUGHT, [corner[1] for corner in value[1]])

    def test_shown_with_values_near(self):
        chance = random.Random(9)
        for text in SMALL + [SUMS, ODD, WEAK]:
            store, asked = Store(text), Asked(text)
            reads, writes = made_rates(chance, asked.items, 2), made_rates(chance, asked.items, 2)
            value = strain_line(store, reads, writes)
            check_shown(self, shows_strain_line, (store, reads, writes), value,
                        lambda other: self.right_line(asked, reads, writes, other), chance, 150)

    def test_shown_with_others_values(self):
        store, asked = Store("items a\nhouse x 1 a\nhouse y 3 a"), Asked("items a\nhouse x 1 a\nhouse y 3 a")
        reads, writes = ((4, 1),), (ONE,)
        # The reads alone have the strain 1, the writes alone 1; between them 1 - t / 2, till x is full.
        line = strain_line(store, reads, writes)
        self.assertEqual(line[1], ((NOUGHT, ONE), ((2, 3), (2, 3)), (ONE, ONE)))
        word, corners, plans, prices = line
        half = (HALF, (3, 4))
        plan = ((0, (0,), (1, 4)), (0, (1,), (7, 4)))
        late, full = ((5, 6), (5, 6)), ((0, (1,), (2, 3)),)
        first, second = ((1, 4), (1, 4)), (ONE, NOUGHT)
        self.assertEqual(prices, (first, second))
        for value, right in (
            (line, True),
            ((word, corners[:1] + (half,) + corners[1:], plans[:1] + (plan,) + plans[1:], (first,) + prices), False),
            ((word, corners[:2] + (late,) + corners[2:], plans[:2] + (full,) + plans[2:], prices + (second,)), False),
            ((word, (corners[0], corners[2]), (plans[0], plans[2]), (first,)), False),
            ((word, corners, plans, prices[::-1]), False), ((word, corners, plans, prices + prices), False),
            ((word, corners[::-1], plans[::-1], prices), False), ((word, corners[:2], plans[:2], prices[:1]), False),
            ((word, corners[1:], plans[1:], prices[1:]), False), ((word, (), (), ()), False), ((word, corners[:1], plans[:1], ()), False),
            ((word, corners, plans[:2] + (((0, (0,), ONE),),), prices), False),
            ((word, corners, plans, (((1, 2), (1, 2)), second)), False),
            (("never", (ONE, NOUGHT)), False), (("out", 0), False),
        ):
            self.assertIs(shows_strain_line(store, reads, writes, value), right, value)
            self.assertIs(self.right_line(asked, reads, writes, value), right, value)

    def test_stretches_of_two_rows_with_the_same_costs_are_one(self):
        chance = random.Random(10)
        for text in TEXTS:
            store, asked = Store(text), Asked(text)
            reads, writes = self.rates(chance, asked)
            if strain_line(store, reads, writes)[0] == "line":
                families = with_writes(store)
                rows = stretches_of(families, strengths_of(store), together(families, reads, writes))
                self.assertEqual(len(rows), len(strain_line(store, reads, writes)[1]) - 1)


class Better(Case):
    def check(self, one, other, reads, writes, value):
        """That these are the ranges, by both told lines."""
        lines = [strain_line(store, reads, writes)[1] for store in (one, other)]
        word, rows = value
        self.assertEqual((word, rows[0][0], rows[-1][1]), ("ranges", NOUGHT, ONE))
        for row, following in zip(rows, rows[1:]):
            self.assertEqual(row[1], following[0])
            self.assertNotEqual(row[2], following[2])
        for start, end, name in rows:
            start, end = read(start), read(end)
            self.assertLess(start, end)
            gaps = [self.strain_on(lines[0], start + (end - start) * Fraction(at, 17)) - self.strain_on(lines[1], start + (end - start) * Fraction(at, 17))
                    for at in range(1, 17)]
            if name == "like":
                self.assertEqual(set(gaps), {0})
            else:
                signs = [gap if name == "more" else -gap for gap in gaps]
                self.assertTrue(all(gap >= 0 for gap in signs) and sum(gap == 0 for gap in signs) < 2, (rows, gaps))

    def test_beside_both_lines(self):
        chance = random.Random(11)
        words, often = set(), 0
        for _ in range(150):
            items, houses = chance.randint(1, 3), chance.randint(2, 6)
            one = Store(made_text(random.Random(chance.random()), items, houses))
            other = Store(one.text)
            for _ in range(chance.randint(0, 3)):
                other = other.with_strength(chance.randrange(houses), chance.randint(0, 9))
            if chance.random() < 0.4:
                other = other.with_house("more", chance.randint(0, 9), ((0,),))
            reads, writes = self.rates(chance, Asked(one.text))
            told_lines = [strain_line(store, reads, writes) for store in (one, other)]
            value = better_shares(one, other, reads, writes)
            self.assertTrue(alike(value, better_shares(Store(one.text), Store(other.text), reads, writes)))
            wrong = [number for number, line in enumerate(told_lines) if line[0] != "line"]
            if wrong:
                self.assertTrue(alike(value, (told_lines[wrong[0]][0], wrong[0], told_lines[wrong[0]][1])))
                words.add(value[:2])
                continue
            self.check(one, other, reads, writes, value)
            words |= {row[2] for row in value[1]}
            often += len(value[1]) > 1
            turned = better_shares(other, one, reads, writes)
            exchange = {"less": "more", "more": "less", "like": "like"}
            self.assertEqual(turned, ("ranges", tuple((start, end, exchange[word]) for start, end, word in value[1])))
        self.assertTrue({"less", "more", "like", ("never", 0), ("never", 1)} <= words, words)
        self.assertGreater(often, 3)

    def test_a_store_beside_itself(self):
        chance = random.Random(13)
        for text in TEXTS:
            store = Store(text)
            reads, writes = self.rates(chance, Asked(text))
            value = better_shares(store, Store(text), reads, writes)
            if strain_line(store, reads, writes)[0] == "line":
                self.assertEqual(value, ("ranges", ((NOUGHT, ONE, "like"),)))
            else:
                self.assertEqual(value[:2], (strain_line(store, reads, writes)[0], 0))

    def test_three_words(self):
        # As long as b strains most both are like; then a is changed in one house, or in two.
        one = Store("items a b\nhouse p 2 a\nhouse q 1 b")
        other = Store("items a b\nhouse p 1 a\nhouse q 1 b\nhouse r 1 a")
        reads, writes = (ONE, ONE), ((2, 1), NOUGHT)
        self.assertEqual(strain_line(one, reads, writes)[1], ((NOUGHT, ONE), ((1, 3), (2, 3)), (ONE, ONE)))
        self.assertEqual(strain_line(other, reads, writes)[1], ((NOUGHT, ONE), ((1, 5), (4, 5)), (ONE, (2, 1))))
        self.assertEqual(better_shares(one, other, reads, writes), ("ranges", ((NOUGHT, (1, 5), "like"), ((1, 5), ONE, "less"))))
        self.assertEqual(better_shares(other, one, reads, writes), ("ranges", ((NOUGHT, (1, 5), "like"), ((1, 5), ONE, "more"))))
        # Here b is like between: a strains one more at first, other more at last.
        more = Store("items a b\nhouse p 2 a\nhouse q 2 b")
        less = Store("items a b\nhouse p 2 a\nhouse q 2 b\nhouse r 2 a")
        rows = better_shares(more, less, ((4, 1), NOUGHT), (ONE, (3, 1)))
        self.check(more, less, ((4, 1), NOUGHT), (ONE, (3, 1)), rows)
        self.assertEqual([row[2] for row in rows[1]], ["more", "like"])

    def test_single_shares_do_not_part(self):
        # Both lines meet at share 1 alone, and less stays less where they touch.
        self.assertEqual(better_shares(Store(THREE), Store(TWO), ((2, 1),), (ONE,)), ("ranges", ((NOUGHT, ONE, "less"),)))
        one, other = Store("items a\nhouse x 2 a\nhouse y 2 a"), Store("items a\nhouse x 1 a\nhouse y 3 a")
        rows = better_shares(one, other, ((4, 1),), (ONE,))
        self.assertEqual(rows, ("ranges", ((NOUGHT, (2, 3), "like"), ((2, 3), ONE, "less"))))

    def test_crossing(self):
        # With fewer houses writes ask less, with more of them reads do.
        few, many = Store("items a\nhouse x 2 a\nhouse y 0 a"), Store("items a\nhouse x 1 a\nhouse y 1 a\nhouse z 1 a")
        self.assertEqual(better_shares(few, many, (ONE,), (ONE,))[:2], ("never", 0))
        few = Store("items a b\nhouse x 2 a\nhouse y 1 b")
        many = Store("items a b\nhouse x 1 a\nhouse y 1 b\nhouse z 1 a\nhouse w 1 a")
        rows = better_shares(few, many, ((2, 1), NOUGHT), (ONE, NOUGHT))
        self.assertEqual(rows, ("ranges", ((NOUGHT, (2, 5), "more"), ((2, 5), ONE, "less"))))

    def test_out_and_errors(self):
        store, other = Store(ODD), Store("items a b c\nhouse p 3 a\nhouse q 1 b\nhouse r 9 c")
        reads, none = (NOUGHT, NOUGHT, ONE), (NOUGHT,) * 3
        self.assertEqual(better_shares(store, other, reads, none), ("out", 0, 2))
        self.assertEqual(better_shares(other, store, reads, none), ("out", 1, 2))
        self.assertEqual(better_shares(store, store, reads, none), ("out", 0, 2))
        never = better_shares(other, store, (ONE, NOUGHT, NOUGHT), (NOUGHT, ONE, NOUGHT))
        self.assertEqual(never, ("never", 1) + strain_line(store, (ONE, NOUGHT, NOUGHT), (NOUGHT, ONE, NOUGHT))[1:])
        for text in ("items a c b\nhouse p 1 a\nhouse q 1 b", "items a b\nhouse p 1 a\nhouse q 1 b", "items a b d\nhouse p 1 a\nhouse q 1 b"):
            unlike = Store(text)
            check_raises(self, OtherItems, unlike, better_shares, store, unlike, None, None)
            check_raises(self, OtherItems, store, better_shares, unlike, store, reads, none)
        for value in any_values():
            check_raises(self, BadRates, value, better_shares, store, other, value, None)
            check_raises(self, BadRates, value, better_shares, store, other, reads, value)


class ForAllStores(Case):
    def test_more_never_strains_reads_more(self):
        chance = random.Random(12)
        for text in TEXTS:
            store, asked = Store(text), Asked(text)
            reads, writes = self.rates(chance, asked)
            none = (NOUGHT,) * asked.items
            item, house = chance.randrange(asked.items), chance.randrange(asked.houses)
            value = strain_line(store, reads, none)
            more = [store.with_house("more", 2, ((item,),))] if len(store) < 8 else []
            more += [store.with_strength(house, store.strengths[house] + 1)] if store.strengths[house] < 9 else []
            for other in more:
                if value[0] == "line":
                    also = strain_line(other, reads, none)
                    self.assertLessEqual(read(also[1][0][1]), read(value[1][0][1]))
            piece = tuple(range(asked.items))
            if len(store.pieces[house]) == 1 and piece != store.pieces[house][0]:
                value, also = [strain_line(one, none, writes) for one in (store, store.with_piece(house, piece))]
                if value[0] == also[0] == "line":
                    self.assertGreaterEqual(read(also[1][-1][1]), read(value[1][-1][1]))
                self.assertFalse(value[0] == "never" and also[0] == "line")


if __name__ == "__main__":
    unittest.main()
