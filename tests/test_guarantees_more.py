"""Section 3, as far as it speaks of writes, two stores, what is heard, offers, wishes and halls."""

import random
import unittest
from fractions import Fraction

from sumshelves.beside import bears_all, needless_pieces, same_lots, shows_bears_all, shows_same_lots, shows_within_region, within_region
from sumshelves.choosing import cheapest, comes_true
from sumshelves.errors import Quarrel, Wide
from sumshelves.hall import Hall
from sumshelves.heard import (
    heard_plan, heard_range, heard_sure, settled_sums, settling, settling_lots, shows_heard_plan, shows_heard_range,
    shows_heard_sure, shows_settling, shows_wrong_counts, wrong_counts,
)
from sumshelves.offers import choices
from sumshelves.plans import borne, house_loads
from sumshelves.region import broken_side, sides
from sumshelves.stores import Store
from sumshelves.whole import whole_plan
from sumshelves.writes import better_shares, borne_writes, shows_borne_writes, shows_strain_line, strain_line
from tests.asking import NOUGHT, ONE, Asked, made_rates, read, texts_of_kinds, times_rates, told
from tests.plain import Plain, alike, made_text, raised
from tests.plainhall import PlainHall, done, some_deed
from tests.test_beside import changed, pairs
from tests.test_guarantees import family, moved, renamed
from tests.test_guarantees_rates import more_of
from tests.test_hall import state
from tests.test_hall import texts as hall_texts
from tests.test_heard import Case as Heard
from tests.test_offers import some_offers

TEXTS = texts_of_kinds(181, often=1) + [made_text(random.Random(at), 2 + at % 3, 4 + at % 4, 2) for at in range(10)]


class OneOfBoth(unittest.TestCase):
    def test_writes(self):
        chance = random.Random(1)
        for text in TEXTS:
            store, asked = Store(text), Asked(text)
            reads, writes = made_rates(chance, asked.items), made_rates(chance, asked.items, 1)
            line = strain_line(store, reads, writes)
            if line[0] != "line" or line[1][1][1] == NOUGHT:
                continue
            share, strain = line[1][1]
            some, more = times_rates(reads, told(1 - read(share))), times_rates(writes, share)
            within, beyond = told(1 / read(strain)), told(Fraction(101, 100) / read(strain))
            here = (times_rates(some, within), times_rates(more, within))
            there = (times_rates(some, beyond), times_rates(more, beyond))
            plan, prices = borne_writes(store, *here), borne_writes(store, *there)
            self.assertEqual((plan[0], prices[0]), ("plan", "prices"))
            self.assertIs(shows_borne_writes(store, *here, prices), False)
            self.assertIs(shows_borne_writes(store, *there, plan), False)
            self.assertIs(shows_strain_line(store, reads, writes, ("never", prices[1])), False)

    def test_two_stores(self):
        for text, also in pairs(2, 60):
            one, other = Store(text), Store(also)
            parts, back = bears_all(one, other), bears_all(other, one)
            self.assertEqual(same_lots(one, other) == ("same",), parts[0] == back[0] == "all")
            # What parts them one way does not part them the other way about.
            self.assertIs(shows_bears_all(one, other, back), parts[0] == back[0] == "all" and parts[1] == back[1])
            self.assertIs(shows_same_lots(one, other, ("same",)), parts[0] == back[0] == "all")
            if back[0] == "parts":
                self.assertIs(shows_same_lots(one, other, ("parts", 1) + back[1:]), True)
                self.assertIs(shows_same_lots(one, other, ("parts", 0) + back[1:]), False)

    def test_heard(self):
        chance = random.Random(3)
        heard = Heard()
        for text in TEXTS:
            store, asked = Store(text), Asked(text)
            counts = heard.counts_of(chance, asked)
            row = heard_plan(store, tuple(told(read(count) + chance.randint(0, 2)) for count in counts))
            if row[0] == "quarrel":
                self.assertIs(shows_heard_plan(store, counts, row), False)
            weights = tuple(chance.randint(-9, 9) for _ in range(asked.items))
            number = told(Fraction(chance.randint(-20, 20), 2))
            word = heard_sure(store, counts, weights, number)[0]
            for more in (-50, -1, 1, 50):
                value = heard_sure(store, counts, weights, told(read(number) + more))
                if shows_heard_sure(store, counts, weights, number, value):
                    self.assertEqual(value[0], word)


class LessAndMore(unittest.TestCase):
    def test_nothing_is_borne_less_with_more(self):
        chance = random.Random(4)
        for text in TEXTS:
            store, asked = Store(text), Asked(text)
            reads = made_rates(chance, asked.items, 2)
            none = (NOUGHT,) * asked.items
            for more in more_of(store, chance):
                if borne_writes(store, reads, none)[0] == "plan":
                    self.assertEqual(borne_writes(more, reads, none)[0], "plan")
                if more.pieces[:len(store)] == store.pieces:
                    # Strengths alone, and houses of other items, take nothing from writes either.
                    writes = tuple(NOUGHT if len(more) > len(store) and item in more.pieces[-1][0] else rate
                                   for item, rate in enumerate(made_rates(chance, asked.items, 1)))
                    if borne_writes(store, reads, writes)[0] == "plan":
                        self.assertEqual(borne_writes(more, reads, writes)[0], "plan")
                if len(more) == len(store):
                    self.assertEqual(bears_all(store, more)[0], "all")
                    if raised(within_region, store, more) is None:
                        self.assertEqual(within_region(store, more)[0], "within")

    def test_halls_with_more(self):
        # Who is let in by one store is let in by one with more.
        chance = random.Random(5)
        for text in hall_texts(6, 40):
            store = Store(text)
            for more in more_of(store, chance):
                if len(more) > 6:
                    continue
                one, other = Hall(store), Hall(more)
                for _ in range(8):
                    item = chance.randrange(len(store.item_names))
                    if raised(one.come, item) is None:
                        self.assertIs(raised(other.come, item), None, (text, more.text))


class OneRegion(unittest.TestCase):
    def test_within_region_is_as_sides_tell(self):
        for text, also in pairs(8, 50, 3, 5):
            one, other = Store(text), Store(also)
            value = within_region(one, other)
            if value[0] == "parts":
                self.assertIs(broken_side(one, value[1]), None)
                self.assertIsNot(broken_side(other, value[1]), None)
                self.assertIs(shows_within_region(one, other, value), True)
            both = within_region(one, other)[0] == within_region(other, one)[0] == "within"
            self.assertEqual(both, sides(one) == sides(other))

    def test_halls_let_in_what_is_placed(self):
        chance = random.Random(9)
        for text in hall_texts(10, 30):
            hall, plain = Hall(Store(text)), PlainHall(text)
            for _ in range(12):
                raised(done, hall, some_deed(chance, plain))
                plain.came = hall.came
            asks = tuple(sum(ask[1] == item for ask in hall.asks) for item in range(len(plain.plain.items)))
            fallen = hall.store
            for house in hall.down:
                fallen = fallen.with_strength(house, 0)
            self.assertEqual(whole_plan(fallen, asks)[0], "placing")
            self.assertEqual(borne(fallen, tuple((many, 1) for many in asks))[0], "plan")


class Names(unittest.TestCase):
    def told(self, store, other, reads, writes, counts, weights, offers, wishes):
        """What all functions tell of a store, and beside another one."""
        told_ones = [borne_writes(store, reads, writes), strain_line(store, reads, writes), better_shares(store, other, reads, writes),
                     bears_all(store, other), same_lots(store, other), needless_pieces(store), heard_plan(store, counts),
                     settling(store, (0, 1), weights), settled_sums(store, (0, 1)), choices(store, offers), cheapest(store, offers, wishes)]
        told_ones += [comes_true(store, wish) for wish in wishes]
        if raised(heard_range, store, counts, 0) is None:
            told_ones += [heard_range(store, counts, item) for item in range(len(reads))] + [heard_sure(store, counts, weights, ONE)]
        if len(store) <= 6:
            told_ones += [settling_lots(store, weights), wrong_counts(store, counts)]
        if raised(within_region, store, other) is None:
            told_ones.append(within_region(store, other))
        return told_ones

    def test_other_names(self):
        chance = random.Random(11)
        for text in TEXTS[::2]:
            also, asked = changed(chance, text), Asked(text)
            reads, writes = made_rates(chance, asked.items), made_rates(chance, asked.items, 1)
            counts = tuple((chance.randint(0, 3), 1) for _ in range(asked.houses))
            weights = tuple(chance.randint(-3, 3) for _ in range(asked.items))
            offers = some_offers(chance, Plain(text), 2)
            wishes = (("bears", reads), ("stands", writes, 1), ("had", 0, 1))
            one = self.told(Store(text), Store(also), reads, writes, counts, weights, offers, wishes)
            two = self.told(Store(renamed(text)), Store(renamed(also)), reads, writes, counts, weights, offers, wishes)
            self.assertTrue(alike(one, two), text)
            self.assertTrue(alike(one, self.told(Store(text), Store(also), reads, writes, counts, weights, offers, wishes)))

    def test_other_sequences(self):
        chance = random.Random(12)
        for text in TEXTS:
            asked = Asked(text)
            self.items = chance.sample(range(asked.items), asked.items)
            self.houses = chance.sample(range(asked.houses), asked.houses)
            store, other = Store(text), Store(moved(text, self.items, self.houses))
            reads, writes = made_rates(chance, asked.items), made_rates(chance, asked.items, 1)
            self.check_writes(store, other, reads, writes)
            counts = Heard().counts_of(chance, asked) if chance.random() < 0.5 else tuple((chance.randint(0, 3), 1) for _ in range(asked.houses))
            weights = tuple(chance.randint(-3, 3) for _ in range(asked.items))
            self.check_heard(store, other, counts, weights)
            found = sorted((self.houses[house], store.pieces[self.houses[house]].index(self.piece(other.pieces[house][number])))
                           for house, number in needless_pieces(other))
            self.assertEqual(tuple(found), needless_pieces(store))

    def of_items(self, row):
        return tuple(row[item] for item in self.items)

    def of_houses(self, row):
        return tuple(row[house] for house in self.houses)

    def piece(self, piece):
        return tuple(sorted(self.items[item] for item in piece))

    def lot(self, lot):
        return tuple(sorted(self.houses[house] for house in lot))

    def plan(self, plan):
        """A plan of the other store as one of the first one."""
        return tuple(sorted((self.items[item], self.lot(lot), share) for item, lot, share in plan))

    def row(self, row):
        """Prices, or a signed row, of the other store as ones of the first one."""
        return tuple(row[self.houses.index(house)] for house in range(len(row)))

    def check_writes(self, store, other, reads, writes):
        turned = self.of_items(reads), self.of_items(writes)
        word, *value = borne_writes(other, *turned)
        self.assertEqual(word, borne_writes(store, reads, writes)[0])
        if word != "out":
            self.assertIs(shows_borne_writes(store, reads, writes, (word, self.plan(value[0]) if word == "plan" else self.row(value[0]))), True)
        word, *value = strain_line(other, *turned)
        self.assertEqual(word, strain_line(store, reads, writes)[0])
        if word == "line":
            self.assertEqual(value[0], strain_line(store, reads, writes)[1])
            back = (word, value[0], tuple(map(self.plan, value[1])), tuple(map(self.row, value[2])))
            self.assertIs(shows_strain_line(store, reads, writes, back), True)
        elif word == "never":
            self.assertIs(shows_strain_line(store, reads, writes, (word, self.row(value[0]))), True)

    def check_heard(self, store, other, counts, weights):
        turned, more = self.of_houses(counts), self.of_items(weights)
        word, value = heard_plan(other, turned)
        self.assertIs(shows_heard_plan(store, counts, (word, self.plan(value) if word == "plan" else self.row(value))), True)
        for at, item in enumerate(self.items):
            if word == "plan":
                name, least, greatest, low, high = heard_range(other, turned, at)
                back = (name, least, greatest, (self.plan(low[0]), self.row(low[1])), (self.plan(high[0]), self.row(high[1])))
                self.assertIs(shows_heard_range(store, counts, item, back), True)
            else:
                self.assertIs(type(raised(heard_range, store, counts, item)), Quarrel)
        if word == "plan":
            for number in (ONE, (-3, 2), (7, 1)):
                name, *rest = heard_sure(other, turned, more, number)
                back = (name, *[self.plan(one) if name == "open" else self.row(one) for one in rest])
                self.assertIs(shows_heard_sure(store, counts, weights, number, back), True)
        lot = (0, len(counts) - 1)
        name, *rest = settling(other, lot, more)
        back = (name, *[self.plan(one) if name == "two" else self.row(one) for one in rest])
        self.assertIs(shows_settling(store, self.lot(lot), weights, back), True)
        self.assertEqual(len(settled_sums(store, self.lot(lot))), len(settled_sums(other, lot)))
        if len(counts) <= 6:
            self.assertEqual(family(map(self.lot, settling_lots(other, more))), settling_lots(store, weights))
            name, wrong, plan = wrong_counts(other, turned)
            self.assertIs(shows_wrong_counts(store, counts, (name, self.lot(wrong), self.plan(plan))), True)
        else:
            self.assertIs(type(raised(wrong_counts, store, counts)), Wide)

    def test_what_was_told_is_handed_in_again(self):
        chance = random.Random(13)
        for text in TEXTS[::3]:
            store, asked = Store(text), Asked(text)
            great = tuple(told(Fraction(chance.randint(1, 10 ** 9 - 1), chance.randint(1, 10 ** 9 - 1))) if family else NOUGHT for family in asked.families)
            line = strain_line(store, great, great[::-1])
            self.assertIs(shows_strain_line(store, great, great[::-1], line), True)
            if line[0] != "line":
                continue
            for share, strain in line[1]:
                some = times_rates(great, told(1 - read(share)))
                more = times_rates(great[::-1], share)
                if strain != NOUGHT:
                    often = told(1 / read(strain))
                    value = borne_writes(store, times_rates(some, often), times_rates(more, often))
                    self.assertEqual(value[0], "plan")
                    counts = house_loads(store, value[1])
                    self.assertEqual(heard_plan(store, counts)[0], "plan")
                    least = heard_range(store, counts, 0)[1]
                    weights = tuple(int(item == 0) for item in range(asked.items))
                    sure = heard_sure(store, counts, weights, least)
                    self.assertEqual(sure[0], "surely")
                    self.assertIs(shows_heard_sure(store, counts, weights, least, sure), True)


class Live(unittest.TestCase):
    def test_what_is_taken_back_or_tried_leaves_nothing(self):
        chance = random.Random(14)
        for text in hall_texts(15, 30):
            one, other, plain = Hall(Store(text)), Hall(Store(text)), PlainHall(text)
            for _ in range(12):
                plain.came = one.came
                deed = some_deed(chance, plain, ["come"] * 4 + ["go", "fall", "rise", "settle"])
                self.assertEqual(type(raised(done, one, deed)), type(raised(done, other, deed)))
                with other.trial():
                    raised(done, other, some_deed(chance, plain))
                if raised(done, other, some_deed(chance, plain, ["come", "go", "fall", "rise", "settle"])) is None:
                    other.undo()
                self.assertTrue(alike(state(one), state(other)))
                self.assertTrue(one == other)


if __name__ == "__main__":
    unittest.main()
