"""Section 16, its second half: wishes, and the cheapest choice by which they come true."""

import random
import unittest

from sumshelves.choosing import cheapest, comes_true, shows_cheapest, shows_comes_true
from sumshelves.errors import BadOffers, BadWish, BadWishes
from sumshelves.offers import choices, chosen
from sumshelves.plans import borne
from sumshelves.stores import Store
from tests.asking import HALF, NOUGHT, ONE, Asked, all_lots, are_fractions, check_shown, made_rates, near_values, placings, shown, texts_of_kinds
from tests.plain import LETTERS, Plain, alike, any_values, check_raises, made_text, number_below, raised
from tests.test_offers import some_offers

TWO = "items a b\nhouse one 1 a\nhouse two 1 b"
THREE = "items a b\nhouse one 2 a\nhouse two 2 b\nhouse three 1 a+b"
# c stands in no piece.
ODD = "items a b c\nhouse p 3 a\nhouse q 0 a+b\nhouse r 9 a"
SEVEN = "items a b\n" + "\n".join(f"house h{LETTERS[at]} 1 {'ab'[at % 2]}" for at in range(7))
TEXTS = texts_of_kinds(161, 3, 6, 1) + texts_of_kinds(162, 4, 8, 1)[::2] + [TWO, THREE, ODD, SEVEN]


def all_asks(items, many):
    return [(many,)] if items == 1 else [(first, *rest) for first in range(many + 1) for rest in all_asks(items - 1, many - first)]


class Case(unittest.TestCase):
    def is_wish(self, items, value):
        if type(value) is not tuple or not value or type(value[0]) is not str:
            return False
        if value[0] == "bears":
            return len(value) == 2 and are_fractions(value[1], items)
        if value[0] == "stands":
            return len(value) == 3 and are_fractions(value[1], items) and number_below(value[2], 3)
        if value[0] == "had":
            return len(value) == 3 and number_below(value[1], items) and number_below(value[2], 8)
        return value[0] == "any" and len(value) == 2 and number_below(value[1], 3)

    def some_wish(self, chance, items):
        return chance.choice([
            ("bears", made_rates(chance, items, 3)), ("stands", made_rates(chance, items, 2), chance.randint(0, 2)),
            ("had", chance.randrange(items), chance.choice([0, 0, 1, 1, 2, 3])), ("any", chance.randint(0, 2))])

    def is_true(self, text, wish):
        """Whether the wish comes true, by going through all lots and placings, and by what borne tells."""
        asked, plain = Asked(text), Plain(text)
        if wish[0] == "bears":
            return borne(Store(text), wish[1])[0] == "plan"
        if wish[0] == "stands":
            fallen = [asked.behind(lot) for lot in all_lots(asked.houses, [wish[2]])]
            return all(borne(self.as_store(text, behind), wish[1])[0] == "plan" for behind in fallen)
        if wish[0] == "had":
            losing = plain.losing(wish[1]) if asked.families[wish[1]] else ()
            return bool(losing) and min(map(len, losing)) > wish[2]
        if asked.houses > 6 or () in asked.families:
            return False
        return all(placings(asked.families, plain.strengths, asks) for asks in all_asks(asked.items, wish[1]))

    def as_store(self, text, asked):
        store = Store(text)
        for house, strength in enumerate(asked.strengths):
            store = store.with_strength(house, int(strength))
        return store

    def right_told(self, text, wish, value):
        """Whether this can be told of the wish, and whether it then comes true; None if it cannot."""
        asked, plain = Asked(text), Plain(text)
        if wish[0] == "bears":
            return shown(value, "plan", 2) if asked.right_borne(wish[1], value) else None
        if wish[0] == "stands":
            return self.right_falls(asked, wish, value)
        if wish[0] == "had":
            losing = plain.losing(wish[1]) if asked.families[wish[1]] else ((),)
            return len(value) > wish[2] if alike(value, losing[0]) else None
        if asked.houses > 6 or () in asked.families:
            wanted = ("wide", 6) if asked.houses > 6 else ("out", asked.families.index(()))
            return False if alike(value, wanted) else None
        if shown(value, "always", 1):
            return True if self.is_true(text, wish) else None
        if not shown(value, "barred", 3) or type(value[1]) is not tuple or len(value[1]) != asked.items:
            return None
        if not all(number_below(number, 3) for number in value[1]) or sum(value[1]) != wish[1]:
            return None
        return False if self.is_tree(asked.families, value[1], tuple(plain.strengths), value[2]) else None

    def right_falls(self, asked, wish, value):
        _, rates, many = wish
        lots = all_lots(asked.houses, [many])
        if shown(value, "borne", 2):
            right = type(value[1]) is tuple and len(value[1]) == len(lots)
            return True if right and all(asked.behind(lot).bears(rates, plan) for lot, plan in zip(lots, value[1])) else None
        if shown(value, "broken", 3):
            return False if any(alike(value[1], lot) for lot in lots) and asked.behind(value[1]).bars(rates, value[2]) else None
        return False if asked.is_out(rates, value) else None

    def is_tree(self, families, left, strengths, value):
        """Whether this is a tree, followed to all its ends."""
        asked = Asked("items a\nhouse p 1 a\nhouse q 1 a", strengths, families)
        asked.houses, asked.items = len(strengths), len(families)
        if shown(value, "none", 2):
            return number_below(value[1], len(families)) and left[value[1]] > 0 and not families[value[1]]
        if shown(value, "prices", 2):
            return asked.bars(tuple((many, 1) for many in left), value[1])
        if not shown(value, "set", 4) or not number_below(value[1], len(families)) or type(value[3]) is not tuple:
            return False
        _, item, lot, trees = value
        if not any(alike(lot, other) for other in families[item]):
            return False
        if len(trees) != min([left[item]] + [strengths[house] for house in lot]) + 1:
            return False
        unset = tuple(tuple(other for other in family if at != item or other != lot) for at, family in enumerate(families))
        return all(self.is_tree(unset, tuple(many - number * (at == item) for at, many in enumerate(left)),
                                tuple(strength - number * (house in lot) for house, strength in enumerate(strengths)), tree)
                   for number, tree in enumerate(trees))

    def right(self, text, wish, value):
        return any(shown(value, word, 2) and self.right_told(text, wish, value[1]) is way for word, way in (("true", True), ("false", False)))


class Wishes(Case):
    def test_each_word(self):
        chance = random.Random(1)
        words = {}
        for text in TEXTS:
            store = Store(text)
            for _ in range(8):
                wish = self.some_wish(chance, len(store.item_names))
                value = comes_true(store, wish)
                self.assertEqual(value[0], "true" if self.is_true(text, wish) else "false", (text, wish))
                self.assertTrue(self.right(text, wish, value), (text, wish, value))
                self.assertIs(shows_comes_true(store, wish, value), True)
                words[(wish[0], value[0])] = words.get((wish[0], value[0]), 0) + 1
        self.assertEqual(len(words), 8)
        self.assertGreater(min(words.values()), 8)

    def test_just_true_and_just_not(self):
        store = Store(THREE)
        for true, false in (
            (("bears", ((3, 1), ONE)), ("bears", ((3, 1), (1001, 1000)))), (("stands", (ONE, ONE), 1), ("stands", (ONE, (11, 10)), 1)),
            (("stands", (ONE, ONE), 0), ("stands", (ONE, ONE), 2)), (("had", 0, 1), ("had", 0, 2)), (("had", 1, 0), ("had", 1, 7)),
            (("stands", (NOUGHT, NOUGHT), 2), ("stands", (NOUGHT, (1, 9)), 2)),
        ):
            self.assertEqual((comes_true(store, true)[0], comes_true(store, false)[0]), ("true", "false"), (true, false))
        self.assertEqual(comes_true(store, ("any", 2)), ("true", ("always",)))
        weak = store.with_strength(0, 0).with_strength(1, 1)
        self.assertEqual([comes_true(weak, ("any", many))[0] for many in (0, 1, 2)], ["true", "true", "false"])
        self.assertEqual(comes_true(store, ("had", 0, 1)), ("true", (0, 1)))
        self.assertEqual(comes_true(store, ("had", 0, 2)), ("false", (0, 1)))

    def test_out_and_wide(self):
        odd, seven = Store(ODD), Store(SEVEN)
        self.assertEqual(comes_true(odd, ("had", 2, 0)), ("false", ()))
        self.assertEqual(comes_true(odd, ("any", 0)), ("false", ("out", 2)))
        self.assertEqual(comes_true(odd, ("bears", (ONE, NOUGHT, HALF))), ("false", ("out", 2)))
        self.assertEqual(comes_true(odd, ("stands", (ONE, NOUGHT, HALF), 0)), ("false", ("out", 2)))
        self.assertEqual(comes_true(seven, ("any", 0)), ("false", ("wide", 6)))
        self.assertEqual(comes_true(Store(SEVEN.replace(" 1 b", " 1 a")), ("any", 2)), ("false", ("wide", 6)))
        self.assertEqual(comes_true(seven, ("had", 1, 2)), ("true", (1, 3, 5)))
        self.assertEqual(comes_true(seven, ("had", 0, 7))[0], "false")
        for value, right in ((("false", ("wide", 6)), True), (("true", ("wide", 6)), False), (("false", ("wide", 7)), False), (("false", ("out", 1)), False),
                             (("false", ("wide", True)), False), (("false", ["wide", 6]), False), (("true", ("always",)), False)):
            self.assertIs(shows_comes_true(seven, ("any", 0), value), right, value)
        for value, right in ((("false", ("out", 2)), True), (("false", ("out", 1)), False), (("false", ("wide", 6)), False), (("true", ("out", 2)), False)):
            self.assertIs(shows_comes_true(odd, ("any", 1), value), right, value)
        for value, right in ((("false", ()), True), (("true", ()), False), (("false", (0,)), False), (("false", []), False)):
            self.assertIs(shows_comes_true(odd, ("had", 2, 0), value), right, value)

    def test_shown_with_others_values(self):
        store = Store(THREE)
        plan = ((0, (0,), ONE), (1, (0, 2), ONE))
        for wish, value, right in (
            (("bears", (ONE, ONE)), ("true", ("plan", plan)), True), (("bears", (ONE, ONE)), ("false", ("plan", plan)), False),
            (("bears", (ONE, HALF)), ("true", ("plan", plan)), False), (("bears", ((9, 1), ONE)), ("false", ("prices", (ONE, ONE, NOUGHT))), True),
            (("bears", ((9, 1), ONE)), ("true", ("prices", (ONE, ONE, NOUGHT))), False),
            (("bears", ((9, 1), ONE)), ("false", ("prices", (NOUGHT, NOUGHT, ONE))), False),
            (("stands", (ONE, ONE), 2), ("false", ("broken", (0, 1), ((2, 1), (2, 1), NOUGHT))), True),
            (("stands", (ONE, ONE), 2), ("true", ("broken", (0, 1), (ONE, ONE, ONE))), False),
            (("stands", (ONE, ONE), 1), ("false", ("broken", (0, 1), (ONE, ONE, ONE))), False),
            (("had", 0, 1), ("true", (0, 1)), True), (("had", 0, 1), ("true", (0, 2)), False), (("had", 0, 1), ("false", (0, 1)), False),
            (("any", 2), ("true", ("always",)), True), (("any", 2), ("false", ("always",)), False), (("any", 2), ("true", ["always"]), False),
        ):
            self.assertIs(shows_comes_true(store, wish, value), right, (wish, value))
            self.assertIs(self.right(THREE, wish, value), right, (wish, value))

    def test_shown_with_values_near(self):
        chance = random.Random(2)
        for text in texts_of_kinds(163, 2, 4, 1) + [TWO, THREE, ODD, SEVEN]:
            store = Store(text)
            for word in ("bears", "stands", "had", "any"):
                wish = next(wish for wish in iter(lambda: self.some_wish(chance, len(store.item_names)), None) if wish[0] == word)
                check_shown(self, shows_comes_true, (store, wish), comes_true(store, wish), lambda value: self.right(text, wish, value), chance, 80)

    def test_what_is_no_wish(self):
        store = Store(THREE)
        hand_made = [
            ("bears", (ONE,)), ("bears", (ONE, ONE, ONE)), ("bears", [ONE, ONE]), ("bears", (ONE, (2, 2))), ("bears",), ("bears", (ONE, ONE), 1),
            ("stands", (ONE, ONE)), ("stands", (ONE, ONE), 3), ("stands", (ONE, ONE), -1), ("stands", (ONE, ONE), True), ("stands", (ONE,), 1),
            ("had", 2, 1), ("had", -1, 1), ("had", True, 1), ("had", 0, 8), ("had", 0, -1), ("had", 0, True), ("had", 0), ("had", "a", 1),
            ("any", 3), ("any", -1), ("any", True), ("any",), ("any", 1, 1), ["any", 1], ("Any", 1), ("all", 1), (1, "any"), (("any", 1),)]
        for value in hand_made + any_values():
            self.assertFalse(self.is_wish(2, value))
            check_raises(self, BadWish, value, comes_true, store, value)
            check_raises(self, BadWish, value, comes_true, wish=value, store=store)
            check_raises(self, BadWish, value, shows_comes_true, store, value, None)
            wishes = (("any", 1), value)
            check_raises(self, BadWishes, wishes, cheapest, store, (), wishes)
            check_raises(self, BadWishes, wishes, shows_cheapest, store, (), wishes, None)
        for wish in (("bears", (ONE, ONE)), ("stands", (HALF, ONE), 2), ("had", 1, 7), ("any", 2)):
            for value in near_values(wish):
                if self.is_wish(2, value):
                    self.assertIs(raised(comes_true, store, value), None)
                else:
                    check_raises(self, BadWish, value, comes_true, store, value)


class Cheapest(Case):
    def plainly(self, text, offers, wishes):
        """(how many choices are ahead, all choices) by going through all of them."""
        ranked = choices(Store(text), offers)
        for at, (_, choice) in enumerate(ranked):
            if all(self.is_true(chosen(Store(text), offers, choice).text, wish) for wish in wishes):
                return at, ranked
        return len(ranked), ranked

    def right_cheapest(self, text, offers, wishes, value):
        many, ranked = self.plainly(text, offers, wishes)
        if many < len(ranked):
            if not shown(value, "choice", 4) or not alike(value[1:3], ranked[many]):
                return False
        elif not shown(value, "none", 2):
            return False
        reasons = value[-1]
        if type(reasons) is not tuple or len(reasons) != many:
            return False
        for (_, choice), reason in zip(ranked, reasons):
            if type(reason) is not tuple or len(reason) != 2 or not number_below(reason[0], len(wishes)):
                return False
            if self.right_told(chosen(Store(text), offers, choice).text, wishes[reason[0]], reason[1]) is not False:
                return False
        return True

    def test_beside_going_through_all_choices(self):
        chance = random.Random(3)
        kinds = {}
        for _ in range(90):
            text = made_text(chance, chance.randint(1, 3), chance.randint(2, 5))
            store, plain = Store(text), Plain(text)
            offers = some_offers(chance, plain, chance.choice([0, 2, 3, 4]))
            wishes = tuple(self.some_wish(chance, len(plain.items)) for _ in range(chance.randint(1, 3)))
            value = cheapest(store, offers, wishes)
            self.assertTrue(self.right_cheapest(text, offers, wishes, value), (text, offers, wishes, value))
            self.assertIs(shows_cheapest(store, offers, wishes, value), True)
            kind = (value[0], len(value[-1]) > 0)
            kinds[kind] = kinds.get(kind, 0) + 1
        self.assertEqual(set(kinds), {("none", True), ("choice", True), ("choice", False)})
        self.assertGreater(min(kinds.values()), 8)

    def test_reasons(self):
        store = Store(TWO)
        offers = (("house", "three", 1, ((0, 1),), 5), ("piece", 0, (1,), 3), ("strength", 1, 2, 2))
        wishes = (("bears", (ONE, (2, 1))), ("had", 1, 1))
        value = cheapest(store, offers, wishes)
        word, price, choice, reasons = value
        self.assertEqual((word, price, choice, len(reasons)), ("choice", 5, (1, 2), 4))
        bars = ("prices", (ONE, ONE))
        lone = (1, (1,))
        for told, right in (
            (reasons, True), ((lone,) + reasons[1:], True), ((lone, lone) + reasons[2:], True), (reasons[:1] + ((1, (1,)),) + reasons[2:], True),
            (reasons[:-1], False), (reasons + reasons[-1:], False), (reasons[::-1], False), ((), False), (list(reasons), False),
            (((1, (0,)),) + reasons[1:], False), (((0, bars),) + reasons[1:], True), (reasons[:1] + ((0, bars),) + reasons[2:], False),
            (((2, (1,)),) + reasons[1:], False), (((True, (1,)),) + reasons[1:], False), (((0, ("false", bars)),) + reasons[1:], False),
            (((0, ("plan", ())),) + reasons[1:], False), (((0, bars, 1),) + reasons[1:], False), (((-1, (1,)),) + reasons[1:], False),
        ):
            for shown_value in ((word, price, choice, told), (word, price, [1, 2], told), (word, True, choice, told), ("none", told)):
                is_right = right and shown_value[1:3] == (5, (1, 2)) and shown_value[0] == "choice"
                self.assertIs(shows_cheapest(store, offers, wishes, shown_value), is_right, shown_value)
                self.assertIs(self.right_cheapest(TWO, offers, wishes, shown_value), is_right, shown_value)
        for other in ((word, 5, (0,), reasons[:3]), (word, 5, (0,), reasons), (word, 0, (), ()), (word, 10, (0, 1, 2), reasons), (word, 7, (0, 2), reasons)):
            self.assertIs(shows_cheapest(store, offers, wishes, other), False, other)
        none = cheapest(store, offers[1:], (("had", 0, 1),))
        self.assertEqual(none, ("none", ((0, (0,)),) * 4))
        for other, right in ((none, True), (("none", none[1][:3]), False), (("none", none[1] * 2), False), (("choice", 5, (0, 1), none[1][:3]), False)):
            self.assertIs(shows_cheapest(store, offers[1:], (("had", 0, 1),), other), right, other)
        self.assertEqual(cheapest(store, (), (("any", 0),)), ("choice", 0, (), ()))

    def test_shown_with_values_near(self):
        chance = random.Random(4)
        for _ in range(10):
            text = made_text(chance, chance.randint(1, 2), chance.randint(2, 3))
            store, plain = Store(text), Plain(text)
            offers = some_offers(chance, plain, 2)
            wishes = tuple(self.some_wish(chance, len(plain.items)) for _ in range(2))
            value = cheapest(store, offers, wishes)
            check_shown(self, shows_cheapest, (store, offers, wishes), value, lambda other: self.right_cheapest(text, offers, wishes, other), chance, 40)

    def test_errors(self):
        store, wish = Store(TWO), ("any", 1)
        for value in any_values():
            if not alike(value, ()):
                check_raises(self, BadOffers, value, cheapest, store, value, None)
                check_raises(self, BadOffers, value, shows_cheapest, store, value, None, None)
            check_raises(self, BadWishes, value, cheapest, store, (), value)
            check_raises(self, BadWishes, value, cheapest, wishes=value, offers=(), store=store)
            check_raises(self, BadWishes, value, shows_cheapest, store, (), value, None)
        for wishes in ((), (wish,) * 4, [wish], wish, (wish, None), (wish, ["any", 1])):
            check_raises(self, BadWishes, wishes, cheapest, store, (), wishes)
            check_raises(self, BadWishes, wishes, shows_cheapest, store, (), wishes, None)
        self.assertEqual(cheapest(store, (), (wish,) * 3)[0], "choice")


class MoreTakesNoWishAway(Case):
    def test_choices_with_more(self):
        chance = random.Random(5)
        often = 0
        for _ in range(120):
            text = made_text(chance, chance.randint(1, 3), chance.randint(2, 5))
            store, plain = Store(text), Plain(text)
            wish = self.some_wish(chance, len(plain.items))
            if comes_true(store, wish)[0] == "false":
                continue
            for offer in some_offers(chance, plain, 4):
                if offer[0] == "without" or offer[0] == "strength" and offer[2] < plain.strengths[offer[1]]:
                    continue
                more = chosen(store, (offer,), (0,))
                self.assertEqual(comes_true(more, wish)[0], "true", (text, wish, offer))
                often += 1
        self.assertGreater(often, 60)
        six = Store("items a\n" + "\n".join(f"house h{LETTERS[at]} 1 a" for at in range(6)))
        self.assertEqual(comes_true(six, ("any", 2))[0], "true")
        self.assertEqual(comes_true(six.with_house("more", 1, ((0,),)), ("any", 2)), ("false", ("wide", 6)))


if __name__ == "__main__":
    unittest.main()
