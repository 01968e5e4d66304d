"""Section 14: one store beside another one, for all strengths and as they stand."""

import itertools
import random
import unittest

from sumshelves.beside import (
    bears_all, in_other_words, joined, needless_pieces, same_lots, shows_bears_all, shows_same_lots, shows_within_region,
    within_region,
)
from sumshelves.errors import BadHouse, BadPieces, Held, OtherItems, OtherShape, OtherSpan, Wide
from sumshelves.lots import least_lots
from sumshelves.plans import borne
from sumshelves.region import corners
from sumshelves.stores import Store
from tests.asking import NOUGHT, ONE, Asked, are_fractions, check_shown, made_rates, shown, times_rates
from tests.plain import LETTERS, Plain, alike, any_values, check_raises, made_text, number_below, raised, right_content, rising

PLAIN = "items a b\nhouse p 1 a\nhouse q 1 b\nhouse r 1 b"
MIXED = "items a b\nhouse p 1 a\nhouse q 1 b\nhouse r 1 a+b"


def changed(chance, text, pieces=True):
    """A store of the same shape, some pieces or strengths of which are otherwise."""
    lines = [line.split(" ") for line in text.split("\n")]
    names = lines[0][1:]
    every = ["+".join(some) for size in range(1, len(names) + 1) for some in itertools.combinations(names, size)]
    for line in chance.sample(lines[1:], chance.randint(1, 2)):
        line[2] = str(chance.randint(0, 9))
        if pieces:
            line[3:] = chance.sample(every, min(len(every), chance.randint(1, 2)))
    return "\n".join(" ".join(line) for line in lines)


def pairs(seed, often, items=4, houses=6):
    """Texts of two stores of one shape, that are more or less alike."""
    chance = random.Random(seed)
    for _ in range(often):
        text = made_text(chance, chance.randint(1, items), chance.randint(2, houses), chance.randint(1, 2))
        yield text, changed(chance, text, chance.random() < 0.8)


class Case(unittest.TestCase):
    def right_parts(self, one, other, value):
        """Whether this is (item, lot, content), by plain sums."""
        item, lot, content = value
        if not number_below(item, len(one.items)) or not rising(lot, len(one.houses)) or not right_content(content, len(one.items)):
            return False
        if not one.is_had(item, lot) or other.is_had(item, lot) or content[item] != "1":
            return False
        return not set(other.awake(content)) & set(lot)

    def right_all(self, one, other, value):
        if shown(value, "parts", 4):
            return self.right_parts(one, other, value[1:])
        if not shown(value, "all", 2) or type(value[1]) is not tuple or len(value[1]) != len(one.items):
            return False
        for item, row in enumerate(value[1]):
            families = [plain.least(item) for plain in (one, other)]
            if type(row) is not tuple or len(row) != len(families[0]):
                return False
            for number, lot in zip(row, families[0]):
                if not number_below(number, len(families[1])) or not set(families[1][number]) <= set(lot):
                    return False
        return True

    def are_same(self, one, other):
        return all(one.is_had(item, lot) == other.is_had(item, lot) for item in range(len(one.items)) for lot in one.lots())

    def right_same(self, one, other, value):
        if shown(value, "same", 1):
            return self.are_same(one, other)
        if not shown(value, "parts", 5) or not number_below(value[1], 2):
            return False
        return self.right_parts(*([one, other] if value[1] == 0 else [other, one]), value[2:])

    def right_within(self, one, other, value):
        """Whether this is right, by adding; what other bears is looked at by borne, which its own tests look at."""
        asked, also = Asked(one.text), Asked(other.text)
        if shown(value, "within", 2):
            points = corners(one)
            if type(value[1]) is not tuple or len(value[1]) != len(points):
                return False
            return all(also.bears(rates, plan) for rates, plan in zip(points, value[1]))
        if not shown(value, "parts", 3) or not are_fractions(value[1], asked.items) or borne(one, value[1])[0] != "plan":
            return False
        return also.right_unborne(value[1], value[2])


class Lots(Case):
    def test_bears_all_by_going_through_lots(self):
        words = {"all": 0, "parts": 0}
        for text, also in pairs(1, 150, 4, 7):
            one, other = Store(text), Store(also)
            plain, beside = Plain(text), Plain(also)
            value = bears_all(one, other)
            self.assertTrue(self.right_all(plain, beside, value), (text, also, value))
            self.assertIs(shows_bears_all(one, other, value), True)
            less = all(beside.is_had(item, lot) for item in range(len(plain.items)) for lot in plain.lots() if plain.is_had(item, lot))
            self.assertEqual(value[0], "all" if less else "parts")
            words[value[0]] += 1
        self.assertGreater(min(words.values()), 20)

    def test_all_others_lots_are_shown(self):
        # Each lot of the store, and each content, just where they part both.
        for text, also in pairs(2, 25, 3, 4):
            one, other = Store(text), Store(also)
            plain, beside = Plain(text), Plain(also)
            for item, lot, content in itertools.product(range(len(plain.items)), plain.lots(), plain.contents()):
                parts = (item, lot, content)
                self.assertIs(shows_bears_all(one, other, ("parts", *parts)), self.right_parts(plain, beside, parts))
                self.assertIs(shows_same_lots(one, other, ("parts", 0, *parts)), self.right_parts(plain, beside, parts))
                self.assertIs(shows_same_lots(one, other, ("parts", 1, *parts)), self.right_parts(beside, plain, parts))

    def test_same_lots(self):
        words = {}
        for text, also in pairs(3, 150, 4, 6):
            one, other = Store(text), Store(also)
            value = same_lots(one, other)
            self.assertTrue(self.right_same(Plain(text), Plain(also), value), (text, also, value))
            self.assertIs(shows_same_lots(one, other, value), True)
            self.assertEqual(value == ("same",), self.are_same(Plain(text), Plain(also)))
            words[value[:2]] = words.get(value[:2], 0) + 1
        self.assertEqual(set(words), {("same",), ("parts", 0), ("parts", 1)})
        self.assertGreater(min(words.values()), 5)

    def test_equal_lots_of_unlike_pieces(self):
        one = Store("items a b\nhouse p 1 a b\nhouse q 1 a+b\nhouse r 3 a")
        for words in ("a a+b", "a+b b", "b a", "b a+b"):
            other = Store(one.text.replace("p 1 a b", "p 7 " + words))
            self.assertEqual(same_lots(one, other), ("same",))
            self.assertEqual(bears_all(one, other)[0], "all")
        # Of three items a is had of p alone, b and c of nothing.
        one, other = Store("items a b c\nhouse p 1 a\nhouse q 1 b+c"), Store("items a b c\nhouse p 1 a\nhouse q 1 a+b+c")
        self.assertEqual(same_lots(one, other), ("same",))
        self.assertEqual(bears_all(one, other), ("all", ((0,), (), ())))

    def test_by_hand(self):
        plain, mixed = Store(PLAIN), Store(MIXED)
        self.assertEqual(bears_all(plain, mixed), ("parts", 1, (2,), "11"))
        self.assertEqual(same_lots(mixed, plain), ("parts", 0, 0, (1, 2), "10"))
        self.assertIs(shows_bears_all(plain, mixed, ("parts", 1, (1, 2), "11")), False)
        self.assertIs(shows_bears_all(mixed, plain, ("parts", 0, (1, 2), "10")), True)
        self.assertIs(shows_bears_all(mixed, plain, ("parts", 0, (1, 2), "11")), False)
        # Any lot within that of other: both of these lie within p and q.
        one, other = Store("items a b\nhouse p 1 a+b\nhouse q 1 b"), Store("items a b\nhouse p 1 a b\nhouse q 1 a b")
        self.assertEqual(least_lots(one, 0), ((0, 1),))
        self.assertIs(shows_bears_all(one, other, ("all", ((0,), (1,)))), True)
        self.assertIs(shows_bears_all(one, other, ("all", ((1,), (1,)))), True)
        self.assertIs(shows_bears_all(one, other, ("all", ((1,), (0,)))), False)
        self.assertIs(shows_bears_all(one, other, ("all", ((2,), (1,)))), False)
        self.assertIs(shows_bears_all(one, other, ("all", ((True,), (1,)))), False)
        self.assertIs(shows_bears_all(one, other, ("all", ((-1,), (1,)))), False)

    def test_shown_with_values_near(self):
        chance = random.Random(4)
        for text, also in pairs(5, 24, 3, 4):
            stores, plains = (Store(text), Store(also)), (Plain(text), Plain(also))
            check_shown(self, shows_bears_all, stores, bears_all(*stores), lambda value: self.right_all(*plains, value), chance, 150)
            check_shown(self, shows_same_lots, stores, same_lots(*stores), lambda value: self.right_same(*plains, value), chance, 150)


class Pieces(Case):
    def test_needless_pieces(self):
        found = set()
        for text, also in pairs(6, 150, 4, 6):
            for one in (text, also):
                store, plain = Store(one), Plain(one)
                value = needless_pieces(store)
                wanted = []
                for house, pieces in enumerate(plain.pieces):
                    for number in range(len(pieces)):
                        if len(pieces) == 2:
                            less = Plain(store.without_piece(house, number).text)
                            if self.are_same(plain, less):
                                wanted.append((house, number))
                self.assertTrue(alike(value, tuple(wanted)), (one, value))
                found.add(len(value) > 0)
        self.assertEqual(found, {True, False})

    def test_needless_by_hand(self):
        self.assertEqual(needless_pieces(Store(PLAIN)), ())
        # Of p's pieces b alone tells nothing; of two that stand in for each other both are told.
        self.assertEqual(needless_pieces(Store("items a b c\nhouse p 1 a b+c\nhouse q 1 a")), ((0, 1),))
        self.assertEqual(needless_pieces(Store("items a b c\nhouse p 1 a+b a+c\nhouse q 1 b c")), ((0, 0), (0, 1)))
        self.assertEqual(needless_pieces(Store("items a b c\nhouse p 1 a+b a+c\nhouse q 1 a+c")), ((0, 0), (0, 1)))
        self.assertEqual(needless_pieces(Store("items a b c\nhouse p 1 b+c\nhouse q 1 a")), ())

    def test_in_other_words(self):
        right = 0
        for text, _ in pairs(7, 60, 3, 4):
            store, plain = Store(text), Plain(text)
            every = [some for size in range(1, len(plain.items) + 1) for some in itertools.combinations(range(len(plain.items)), size)]
            for house in range(len(plain.houses)):
                for pieces in [(one,) for one in every] + list(itertools.permutations(every, 2)):
                    sums = {frozenset()}
                    for piece in pieces:
                        sums |= {some ^ frozenset(piece) for some in sums}
                    if sums != plain.made((house,)):
                        check_raises(self, OtherSpan, pieces, in_other_words, store, house, pieces)
                        continue
                    told = in_other_words(store, house, pieces)
                    self.assertEqual(told.pieces, store.pieces[:house] + (pieces,) + store.pieces[house + 1:])
                    self.assertEqual((told.strengths, told.house_names, told.item_names), (store.strengths, store.house_names, store.item_names))
                    self.assertEqual(same_lots(store, told), ("same",))
                    right += 1
        self.assertGreater(right, 300)

    def test_in_other_words_errors(self):
        store = Store("items a b\nhouse p 1 a b\nhouse q 1 a+b")
        for value in any_values():
            if not number_below(value, 2):
                check_raises(self, BadHouse, value, in_other_words, store, value, None)
                check_raises(self, BadHouse, value, in_other_words, pieces=None, house=value, store=store)
            if not alike(value, ((0,), (1,))):
                error = raised(in_other_words, store, 0, value)
                self.assertIn(type(error), (BadPieces, OtherSpan))
                self.assertTrue(error.value is value or alike(error.value, value))
        for pieces in ((), ((0,), (0,)), ((0,), (1,), (0, 1)), [(0,), (1,)], ((0,), [1]), ((1, 0),), ((0,), (2,)), ((0,), ()), (0, 1), ((False,), (1,))):
            check_raises(self, BadPieces, pieces, in_other_words, store, 0, pieces)
        for pieces in (((0,),), ((1,),), ((0, 1),)):
            check_raises(self, OtherSpan, pieces, in_other_words, store, 0, pieces)
        self.assertEqual(in_other_words(store, 0, ((0, 1), (1,))).text, "items a b\nhouse p 1 a+b b\nhouse q 1 a+b")

    def test_joined(self):
        one, other = Store(PLAIN), Store("items a b\nhouse x 4 b\nhouse y 0 a+b a")
        both = joined(one, other)
        self.assertEqual(both.text, PLAIN + "\nhouse x 4 b\nhouse y 0 a+b a")
        self.assertEqual(joined(other=one, one=other).text, other.text + PLAIN[len("items a b"):])
        chance = random.Random(8)
        for text, _ in pairs(9, 40, 3, 4):
            lines = text.split("\n")
            other = Store("\n".join(lines[:1] + [line.replace("house h", "house x") for line in changed(chance, text).split("\n")[1:]]))
            one = Store(text)
            both = joined(one, other)
            self.assertEqual(both.pieces, one.pieces + other.pieces)
            for item in range(len(one.item_names)):
                lots = least_lots(one, item) + tuple(tuple(house + len(one) for house in lot) for lot in least_lots(other, item))
                self.assertTrue(set(lots) <= set(least_lots(both, item)))
            rates, more = [made_rates(chance, len(one.item_names), 2) for _ in range(2)]
            if borne(one, rates)[0] == borne(other, more)[0] == "plan":
                sums = tuple(Asked(text).sums(borne(one, rates)[1]))
                also = Asked(other.text).sums(borne(other, more)[1])
                together = tuple(((one_sum + two_sum).numerator, (one_sum + two_sum).denominator) for one_sum, two_sum in zip(sums, also))
                self.assertEqual(borne(both, together)[0], "plan")

    def test_joined_errors(self):
        one = Store(PLAIN)
        eight = Store("items a b\n" + "\n".join(f"house h{LETTERS[at]} 1 a" for at in range(8)))
        for text in ("items b a\nhouse x 1 a\nhouse y 1 b", "items a\nhouse p 1 a\nhouse y 1 a", "items a b c\nhouse p 1 a\nhouse q 1 a"):
            other = Store(text)
            check_raises(self, OtherItems, other, joined, one, other)
            check_raises(self, OtherItems, one, joined, other, one)
        check_raises(self, Held, "q", joined, one, Store("items a b\nhouse x 1 a\nhouse q 1 b\nhouse p 1 a"))
        check_raises(self, Held, "p", joined, one, one)
        check_raises(self, Held, "ha", joined, eight, eight)
        check_raises(self, Wide, 8, joined, eight, one)
        check_raises(self, Wide, 8, joined, one, eight)
        six = Store("items a b\n" + "\n".join(f"house x{LETTERS[at]} 1 a" for at in range(6)))
        check_raises(self, Wide, 8, joined, six, one)
        self.assertEqual(len(joined(six.without_house(0), one)), 8)
        # An item that is called as a house is no house of one.
        self.assertEqual(len(joined(one, Store("items a b\nhouse a 1 a\nhouse b 1 b"))), 5)


class Regions(Case):
    def test_within_region(self):
        words = {}
        for text, also in pairs(10, 260, 3, 5):
            one, other = Store(text), Store(also)
            value = within_region(one, other)
            self.assertTrue(self.right_within(one, other, value), (text, also, value))
            self.assertIs(shows_within_region(one, other, value), True)
            words[value[0]] = words.get(value[0], 0) + 1
            if value[0] == "parts":
                words[value[2][0]] = words.get(value[2][0], 0) + 1
                self.assertIn(value[1], corners(one))
            else:
                chance = random.Random(text)
                for _ in range(3):
                    rates = made_rates(chance, len(one.item_names), 4)
                    if borne(one, rates)[0] == "plan":
                        self.assertEqual(borne(other, rates)[0], "plan")
        self.assertGreater(min(words[word] for word in ("within", "parts", "prices", "out")), 6)

    def test_with_all_strengths_alike(self):
        # What is borne for all strengths is borne with the same ones.
        seen = 0
        for text, also in pairs(11, 80, 3, 5):
            one, other = Store(text), Store(also)
            if bears_all(one, other)[0] == "all":
                for house, strength in enumerate(one.strengths):
                    other = other.with_strength(house, strength)
                self.assertEqual(within_region(one, other)[0], "within")
                seen += 1
            self.assertEqual(within_region(one, one)[0], "within")
        self.assertGreater(seen, 10)

    def test_shown_with_values_near(self):
        chance = random.Random(12)
        for text, also in pairs(13, 14, 2, 4):
            stores = (Store(text), Store(also))
            check_shown(self, shows_within_region, stores, within_region(*stores), lambda value: self.right_within(*stores, value), chance, 120)

    def test_other_rates_are_shown(self):
        one, other = Store(PLAIN), Store(MIXED)
        told = within_region(one, other)
        self.assertEqual((told[0], told[2][0]), ("parts", "prices"))
        for rates, right in (((ONE, (2, 1)), True), ((NOUGHT, (2, 1)), False), ((ONE, (3, 2)), True), ((ONE, ONE), False), ((ONE, (3, 1)), False)):
            value = ("parts", rates, borne(other, rates))
            self.assertIs(shows_within_region(one, other, value), right, rates)
            self.assertIs(shows_within_region(one, other, ("parts", rates, ("prices", (ONE, ONE, NOUGHT)))), right, rates)
        out = Store("items a b\nhouse p 1 a\nhouse q 1 a\nhouse r 1 a")
        self.assertEqual(within_region(one, out)[2], ("out", 1))
        self.assertIs(shows_within_region(one, out, ("parts", (NOUGHT, (1, 9)), ("out", 1))), True)
        self.assertIs(shows_within_region(one, out, ("parts", (ONE, NOUGHT), ("out", 1))), False)
        self.assertIs(shows_within_region(one, out, ("parts", times_rates((ONE, NOUGHT), (2, 1)), ("out", 1))), False)


class Errors(Case):
    def test_shape(self):
        store = Store(PLAIN)
        calls = ((bears_all, ()), (shows_bears_all, (None,)), (same_lots, ()), (shows_same_lots, (None,)), (within_region, ()),
                 (shows_within_region, (None,)))
        texts = (PLAIN.replace("house r", "house s"), "items b a\nhouse p 1 a\nhouse q 1 b\nhouse r 1 b", PLAIN + "\nhouse s 1 a",
                 "items a b\nhouse p 1 a\nhouse q 1 b", "items a b\nhouse q 1 b\nhouse p 1 a\nhouse r 1 b", PLAIN.replace("items a b", "items a b c"),
                 "items a b\n" + "\n".join(f"house h{LETTERS[at]} 1 a" for at in range(7)))
        for call, more in calls:
            for text in texts:
                other = Store(text)
                check_raises(self, OtherShape, other, call, store, other, *more)
                check_raises(self, OtherShape, store, call, other, store, *more)
                named = dict(zip(("value",), more))
                check_raises(self, OtherShape, other, lambda: call(other=other, one=store, **named))

    def test_wide(self):
        four = "items a b c d\nhouse p 1 a\nhouse q 1 b\nhouse r 1 c\nhouse s 1 d"
        three = "items a b c d\nhouse p 1 a\nhouse q 1 b\nhouse r 1 c\nhouse s 1 a"
        seven = "items a b c d\n" + "\n".join(f"house h{LETTERS[at]} 1 {'abcabcd'[at]}" for at in range(7))
        narrow = seven.replace("1 d", "1 a")
        for call, more in ((within_region, ()), (shows_within_region, (None,))):
            check_raises(self, Wide, 3, call, Store(four), Store(three), *more)
            check_raises(self, Wide, 3, call, Store(three), Store(four), *more)
            check_raises(self, Wide, 3, call, Store(seven), Store(narrow), *more)
            # Both of one come ahead of those of other.
            check_raises(self, Wide, 6, call, Store(narrow), Store(seven), *more)
            check_raises(self, Wide, 6, call, Store(narrow), Store(narrow), *more)
            self.assertIs(raised(call, Store(three), Store(three), *more), None)
        self.assertEqual(bears_all(Store(seven), Store(seven))[0], "all")
        self.assertEqual(same_lots(Store(four), Store(three))[0], "parts")

    def test_any_value_is_looked_at(self):
        for text, also in pairs(14, 6, 2, 3):
            one, other = Store(text), Store(also)
            for shows, tells in ((shows_bears_all, bears_all), (shows_same_lots, same_lots), (shows_within_region, within_region)):
                told = tells(one, other)
                for value in any_values():
                    for shown_one in (value, (told[0], value), told[:-1] + (value,), (value,) + told[1:], told + (value,), [told, value],
                                      ("parts", 0, value), ("parts", value, value, value), ("parts", 0, 0, value, value), ("all", (value,))):
                        self.assertIn(shows(one, other, shown_one), (True, False))


if __name__ == "__main__":
    unittest.main()
