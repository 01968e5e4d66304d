"""Section 7: contents as prices."""

import random
import unittest
from fractions import Fraction

from sumshelves.contents import (
    barring_content, content_side, content_times, shows_told_by_contents, told_by_contents,
)
from sumshelves.errors import NoRates
from sumshelves.plans import borne, greatest_times
from sumshelves.stores import Store
from tests.asking import (
    HALF, NOUGHT, ONE, Asked, check_shown, is_fraction, made_rates, read, shown, some_rates, texts_of_kinds, times_rates, told,
)
from tests.plain import alike, check_raises, right_content

TEXTS = texts_of_kinds(31)
SMALL = texts_of_kinds(32, 3, 4, 1)
BOTH = "items a b\nhouse one 2 a\nhouse two 2 b\nhouse three 1 a+b"
PLANES = ("items a b c d\nhouse p 1 a+b\nhouse q 1 a+c\nhouse r 1 a+d\nhouse s 1 a+b+c\nhouse t 1 a+b+d\n"
          "house u 1 a+c+d\nhouse v 1 a+b+c+d")
ODD = "items a b c\nhouse p 3 a\nhouse q 0 a+b\nhouse r 9 a"


class Contents(unittest.TestCase):
    def bound(self, asked, content):
        return sum(asked.plain.strengths[house] for house in asked.plain.awake(content))

    def asked_by(self, rates, content):
        return sum((read(rate) for rate, sign in zip(rates, content) if sign == "1"), Fraction(0))

    def times(self, asked, rates):
        """(times, content) by going through all contents."""
        rows = [(self.bound(asked, content) / self.asked_by(rates, content), content)
                for content in asked.plain.contents() if self.asked_by(rates, content) > 0]
        return min(rows)

    def right(self, asked, rates, value):
        if asked.out(rates) is not None:
            return asked.is_out(rates, value)
        times = self.times(asked, rates)[0]
        if shown(value, "contents", 3):
            _, content, plan = value
            if not right_content(content, asked.items) or self.asked_by(rates, content) == 0:
                return False
            if Fraction(self.bound(asked, content)) / self.asked_by(rates, content) != times:
                return False
            return asked.bears(times_rates(rates, told(times)), plan)
        if not shown(value, "more", 4) or not is_fraction(value[1]) or read(value[1]) >= times:
            return False
        return asked.right_times(rates, ("times",) + value[1:])

    def test_sides(self):
        for text in TEXTS:
            store, asked = Store(text), Asked(text)
            for content in asked.plain.contents():
                items = tuple(item for item, sign in enumerate(content) if sign == "1")
                right = (items, asked.plain.awake(content), self.bound(asked, content))
                self.assertTrue(alike(content_side(store, content), right))

    def test_barring_and_times(self):
        chance = random.Random(1)
        barred = 0
        for text in TEXTS * 3:
            store, asked = Store(text), Asked(text)
            rates = made_rates(chance, asked.items)
            barring = [content for content in sorted(asked.plain.contents())
                       if self.asked_by(rates, content) > self.bound(asked, content)]
            self.assertTrue(alike(barring_content(store, rates), barring[0] if barring else None), (text, rates))
            barred += bool(barring)
            if barring and asked.out(rates) is None:
                self.assertEqual(borne(store, rates)[0], "prices")
            if any(rate[0] for rate in rates):
                times, content = self.times(asked, rates)
                self.assertTrue(alike(content_times(store, rates), (told(times), content)), (text, rates))
                self.assertEqual(barring == [], times >= 1)
        self.assertTrue(20 < barred < len(TEXTS) * 3 - 20, barred)

    def test_by_hand(self):
        both = Store(BOTH)
        self.assertEqual(barring_content(both, ((3, 1), ONE)), None)
        self.assertEqual(barring_content(both, ((3000001, 1000000), ONE)), "10")
        self.assertEqual(barring_content(both, ((4, 1), (4, 1))), "01")
        self.assertEqual(barring_content(both, (NOUGHT, NOUGHT)), None)
        self.assertEqual(content_times(both, (ONE, ONE)), ((2, 1), "11"))
        self.assertEqual(content_times(both, (ONE, NOUGHT)), ((3, 1), "10"))
        self.assertEqual(content_times(Store(ODD), (ONE, NOUGHT, ONE)), (NOUGHT, "001"))
        self.assertEqual(content_times(Store(ODD), (ONE, ONE, NOUGHT)), (NOUGHT, "010"))
        self.assertEqual(barring_content(Store(ODD), (NOUGHT, NOUGHT, (1, 9))), "001")

    def test_bare_item(self):
        # An item that stands in no piece: its content wakes no house.
        store = Store("items a b\nhouse p 1 a\nhouse q 1 a")
        self.assertEqual(content_side(store, "01"), ((1,), (), 0))
        self.assertEqual(content_side(store, "00"), ((), (), 0))
        self.assertEqual(told_by_contents(store, (ONE, HALF)), ("out", 1))

    def test_never_less_than_what_is_borne(self):
        chance = random.Random(2)
        words = {}
        for text in TEXTS * 3 + [PLANES] * 20:
            store, asked = Store(text), Asked(text)
            rates = some_rates(chance, asked)
            if rates is None:
                continue
            greatest, let = greatest_times(store, rates)[1], content_times(store, rates)[0]
            self.assertLessEqual(read(greatest), read(let))
            value = told_by_contents(store, rates)
            words[value[0]] = words.get(value[0], 0) + 1
            self.assertEqual(value[0], "contents" if greatest == let else "more")
            self.assertTrue(self.right(asked, rates, value), (text, rates, value))
            self.assertIs(shows_told_by_contents(store, rates, value), True)
        self.assertGreater(min(words.values()), 2, words)
        self.assertEqual(sorted(words), ["contents", "more"])

    def test_enough_where_at_most_three_items_stand_in_single_pieces(self):
        chance = random.Random(3)
        lines = ["items a b c d", "items d a b c", "items a b c"]
        pieces = ["a", "b", "c", "a+b", "a+c", "b+c", "a+b+c"]
        seen = 0
        for number in range(250):
            rows = [f"house h{'abcdefgh'[at]} {chance.randint(0, 9)} {chance.choice(pieces)}" for at in range(chance.randint(3, 8))]
            asked = Asked("\n".join([lines[number % 3]] + rows))
            rates = some_rates(chance, asked)
            if rates is not None:
                seen += 1
                store = Store(asked.text)
                self.assertEqual(greatest_times(store, rates)[1], content_times(store, rates)[0], (asked.text, rates))
                self.assertEqual(told_by_contents(store, rates)[0], "contents")
        self.assertGreater(seen, 200)

    def test_planes(self):
        rates = (ONE, NOUGHT, NOUGHT, NOUGHT)
        self.assertEqual(content_times(Store(PLANES), rates)[0], (3, 1))
        value = told_by_contents(Store(PLANES), rates)
        self.assertEqual(value[:2], ("more", (7, 3)))
        self.assertTrue(self.right(Asked(PLANES), rates, value))

    def test_shown_with_values_near(self):
        chance = random.Random(4)
        cases = [(text, made_rates(chance, Asked(text).items)) for text in SMALL]
        cases += [(ODD, (ONE, ONE, NOUGHT)), (ODD, (ONE, ONE, ONE)), (BOTH, (ONE, ONE)), (BOTH, ((3, 1), ONE))]
        cases += [(PLANES, (ONE, NOUGHT, NOUGHT, NOUGHT))]
        for text, rates in cases:
            if not any(rate[0] for rate in rates):
                continue
            store, asked = Store(text), Asked(text)
            check_shown(self, shows_told_by_contents, (store, rates), told_by_contents(store, rates),
                        lambda value: self.right(asked, rates, value), chance, 200)

    def test_shown_with_others_values(self):
        store, rates = Store(BOTH), (ONE, ONE)
        plan = ((0, (0,), (2, 1)), (1, (1,), (2, 1)))
        prices = (HALF, HALF, NOUGHT)
        for value, right in ((("contents", "11", plan), True), (("contents", "10", plan), False), (("contents", "00", plan), False),
                             (("contents", "11", ()), False), (("more", (2, 1), plan, prices), False),
                             (("times", (2, 1), plan, prices), False), (("contents", ("1", "1"), plan), False)):
            self.assertIs(shows_told_by_contents(store, rates, value), right, value)
        # Two contents have the least times here: each is right.
        copies = Store("items a b\nhouse p 1 a\nhouse q 1 b")
        plan = ((0, (0,), ONE), (1, (1,), ONE))
        for content in ("01", "10", "11"):
            self.assertIs(shows_told_by_contents(copies, (ONE, ONE), ("contents", content, plan)), True)
        self.assertEqual(content_times(copies, (ONE, ONE)), (ONE, "01"))
        # Out is told ahead of contents, though one of these has the times 0.
        self.assertIs(shows_told_by_contents(Store(ODD), (ONE, NOUGHT, ONE), ("contents", "001", ())), False)
        self.assertIs(shows_told_by_contents(Store(ODD), (ONE, ONE, NOUGHT), ("contents", "010", ())), True)
        self.assertIs(shows_told_by_contents(Store(ODD), (ONE, ONE, NOUGHT), ("contents", "110", ())), False)

    def test_no_rates(self):
        for text in SMALL:
            store = Store(text)
            rates = tuple([NOUGHT] * len(store.item_names))
            self.assertIs(barring_content(store, rates), None)
            for call in (content_times, told_by_contents, lambda store, rates: shows_told_by_contents(store, rates, None)):
                check_raises(self, NoRates, rates, call, store, rates)


if __name__ == "__main__":
    unittest.main()
