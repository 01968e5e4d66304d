"""Section 16, its first half: offers, the choices that count, and the store with one of them."""

import itertools
import random
import unittest

from sumshelves.errors import BadChoice, BadOffers
from sumshelves.offers import choices, chosen
from sumshelves.stores import Store
from tests.plain import LETTERS, Plain, alike, any_values, check_raises, made_text, near, number_below, raised, rising

TEXT = "items a b\nhouse one 1 a\nhouse two 0 b a+b\nhouse three 9 a+b"
EIGHT = "items a b\n" + "\n".join(f"house h{LETTERS[at]} {at} a" for at in range(8))


def right_pieces(value, items):
    if type(value) is not tuple or len(value) not in (1, 2):
        return False
    return all(rising(piece, items) and piece for piece in value) and len(set(value)) == len(value)


def right_name(value):
    return type(value) is str and 1 <= len(value) <= 8 and set(value) <= set(LETTERS)


def right_offer(plain, value):
    """Whether this is an offer for a store, read plainly."""
    if type(value) is not tuple or not value or type(value[0]) is not str:
        return False
    items, houses = len(plain.items), len(plain.houses)
    if not (type(value[-1]) is int and 1 <= value[-1] <= 99):
        return False
    if value[0] == "house":
        return (len(value) == 5 and right_name(value[1]) and value[1] not in plain.houses and number_below(value[2], 10)
                and right_pieces(value[3], items))
    if len(value) != 4 or not number_below(value[1], houses):
        return False
    pieces = plain.pieces[value[1]]
    if value[0] == "piece":
        return len(pieces) == 1 and rising(value[2], items) and len(value[2]) > 0 and frozenset(value[2]) != pieces[0]
    if value[0] == "strength":
        return number_below(value[2], 10) and value[2] != plain.strengths[value[1]]
    return value[0] == "without" and len(pieces) == 2 and number_below(value[2], 2)


def right_offers(plain, value):
    if type(value) is not tuple or len(value) > 4 or not all(right_offer(plain, offer) for offer in value):
        return False
    return list(value) == sorted(value) and len({offer[:-1] for offer in value}) == len(value)


def some_offer(chance, plain):
    """Some offer for a store."""
    items, every = len(plain.items), []
    for size in range(1, items + 1):
        every += itertools.combinations(range(items), size)
    price = chance.randint(1, 99)
    while True:
        house = chance.randrange(len(plain.houses))
        offer = chance.choice([
            ("house", chance.choice(["more", "far", "new"]), chance.randint(0, 9), tuple(chance.sample(every, chance.randint(1, min(2, len(every))))), price),
            ("piece", house, chance.choice(every), price), ("strength", house, chance.randint(0, 9), price),
            ("without", house, chance.randint(0, 1), price)])
        if right_offer(plain, offer):
            return offer


def some_offers(chance, plain, many=None):
    """So many offers, fewer where they are alike; some of them often change one house."""
    offers = {}
    for _ in range(chance.randint(0, 4) if many is None else many):
        offer = some_offer(chance, plain)
        offers[offer[:-1]] = offer
    return tuple(sorted(offers.values()))


def plain_choices(plain, offers):
    """All choices that count, by price, then by how many, then as tuples."""
    found = []
    for choice in (some for size in range(len(offers) + 1) for some in itertools.combinations(range(len(offers)), size)):
        taken = [offers[number] for number in choice]
        places = [("house" if offer[0] == "house" else offer[0], offer[1]) for offer in taken]
        more = sum(offer[0] == "house" for offer in taken)
        if len(set(places)) == len(places) and len(plain.houses) + more <= 8:
            found.append((sum(offer[-1] for offer in taken), choice))
    return tuple(sorted(found, key=lambda row: (row[0], len(row[1]), row[1])))


def plain_chosen(text, offers, choice):
    """The store's text with these changes, line by line."""
    plain, lines = Plain(text), [line.split(" ") for line in text.split("\n")]
    more = []
    for offer in (offers[number] for number in choice):
        if offer[0] == "house":
            words = ["+".join(plain.items[item] for item in piece) for piece in offer[3]]
            more.append(["house", offer[1], str(offer[2])] + words)
            continue
        line = lines[offer[1] + 1]
        if offer[0] == "strength":
            line[2] = str(offer[2])
        elif offer[0] == "piece":
            line.append("+".join(plain.items[item] for item in offer[2]))
        else:
            del line[3 + offer[2]]
    return "\n".join(" ".join(line) for line in lines + more)


class Offers(unittest.TestCase):
    def test_choices_and_chosen(self):
        chance = random.Random(1)
        left_out = words = 0
        for _ in range(300):
            text = chance.choice([TEXT, EIGHT, made_text(chance, chance.randint(1, 4), chance.randint(2, 8))])
            store, plain = Store(text), Plain(text)
            offers = some_offers(chance, plain)
            self.assertTrue(right_offers(plain, offers))
            told = choices(store, offers)
            self.assertTrue(alike(told, plain_choices(plain, offers)), (text, offers))
            self.assertEqual(told[0], (0, ()))
            left_out += len(told) < 2 ** len(offers)
            for choice in (some for size in range(len(offers) + 1) for some in itertools.combinations(range(len(offers)), size)):
                if choice in [row[1] for row in told]:
                    self.assertEqual(chosen(store, offers, choice).text, plain_chosen(text, offers, choice), (text, offers, choice))
                    words += len(choice) > 2
                else:
                    check_raises(self, BadChoice, choice, chosen, store, offers, choice)
            self.assertEqual(store, Store(text))
        self.assertGreater(min(left_out, words), 50)

    def test_changes_one_behind_the_other(self):
        store = Store(TEXT)
        offers = (("house", "far", 3, ((0,), (1,)), 4), ("piece", 0, (1,), 1), ("strength", 0, 7, 9), ("without", 1, 0, 2))
        wanted = store.with_house("far", 3, ((0,), (1,))).with_piece(0, (1,)).with_strength(0, 7).without_piece(1, 0)
        self.assertEqual(chosen(store, offers, (0, 1, 2, 3)), wanted)
        self.assertEqual(chosen(store=store, choice=(), offers=offers), store)
        self.assertEqual(choices(offers=offers, store=store)[-1], (16, (0, 1, 2, 3)))
        two = (("house", "far", 1, ((0,),), 5), ("house", "near", 1, ((1,),), 1))
        self.assertEqual(chosen(store, two, (0, 1)).house_names[3:], ("far", "near"))

    def test_sequence_of_choices(self):
        store = Store(TEXT)
        offers = (("piece", 0, (1,), 1), ("strength", 0, 7, 1), ("strength", 1, 7, 2), ("strength", 2, 7, 3))
        wanted = ((0, ()), (1, (0,)), (1, (1,)), (2, (2,)), (2, (0, 1)), (3, (3,)), (3, (0, 2)), (3, (1, 2)), (4, (0, 3)), (4, (1, 3)),
                  (4, (0, 1, 2)), (5, (2, 3)), (5, (0, 1, 3)), (6, (0, 2, 3)), (6, (1, 2, 3)), (7, (0, 1, 2, 3)))
        self.assertEqual(choices(store, offers), wanted)
        self.assertEqual(choices(store, ()), ((0, ()),))

    def test_two_changes_of_one_house(self):
        store = Store(TEXT)
        for offers in (
            (("strength", 0, 2, 1), ("strength", 0, 3, 1)), (("piece", 0, (0, 1), 1), ("piece", 0, (1,), 1)),
            (("without", 1, 0, 1), ("without", 1, 1, 1)), (("house", "far", 1, ((0,),), 1), ("house", "far", 2, ((0,),), 1)),
        ):
            self.assertEqual(choices(store, offers), ((0, ()), (1, (0,)), (1, (1,))))
            check_raises(self, BadChoice, (0, 1), chosen, store, offers, (0, 1))
        for offers in (
            (("strength", 0, 2, 1), ("strength", 2, 3, 1)), (("piece", 0, (0, 1), 1), ("strength", 0, 3, 1)),
            (("strength", 1, 2, 1), ("without", 1, 1, 1)), (("house", "far", 1, ((0,),), 1), ("house", "near", 1, ((0,),), 1)),
            (("piece", 0, (1,), 1), ("piece", 2, (1,), 1)), (("piece", 0, (1,), 1), ("without", 1, 0, 1)),
        ):
            self.assertEqual(len(choices(store, offers)), 4)

    def test_nine_houses(self):
        eight, offer = Store(EIGHT), ("house", "far", 1, ((0,),), 1)
        self.assertEqual(choices(eight, (offer,)), ((0, ()),))
        check_raises(self, BadChoice, (0,), chosen, eight, (offer,), (0,))
        seven = eight.without_house(0)
        offers = (offer, ("house", "near", 1, ((0,),), 1), ("strength", 0, 9, 1))
        self.assertEqual([row[1] for row in choices(seven, offers)], [(), (0,), (1,), (2,), (0, 2), (1, 2)])
        check_raises(self, BadChoice, (0, 1), chosen, seven, offers, (0, 1))
        self.assertEqual(len(chosen(seven, offers, (1, 2))), 8)

    def test_none_four_and_five(self):
        store = Store(TEXT)
        five = tuple(("strength", 0, strength, 1) for strength in range(2, 7))
        self.assertEqual(len(choices(store, five[:4])), 5)
        check_raises(self, BadOffers, five, choices, store, five)
        check_raises(self, BadOffers, five, chosen, store, five, ())


class Wrong(unittest.TestCase):
    def check(self, store, plain, value):
        if right_offers(plain, value):
            self.assertIs(raised(choices, store, value), None, value)
            return 1
        check_raises(self, BadOffers, value, choices, store, value)
        check_raises(self, BadOffers, value, chosen, store, value, None)
        return 0

    def test_each_kind_right_and_nearly_right(self):
        store, plain = Store(TEXT), Plain(TEXT)
        right = 0
        for offers in ((("house", "far", 0, ((0,),), 1),), (("house", "far", 9, ((0, 1), (0,)), 99),), (("piece", 0, (1,), 50),),
                       (("piece", 2, (0,), 1),), (("strength", 0, 0, 1),), (("strength", 2, 8, 99),), (("without", 1, 0, 1),),
                       (("without", 1, 1, 3), ("without", 1, 1, 4)), (("piece", 0, (1,), 50), ("strength", 0, 0, 1), ("without", 1, 0, 1))):
            for value in [offers] + list(near(offers)):
                right += self.check(store, plain, value)
        self.assertGreater(right, 30)

    def test_hand_made(self):
        store, plain = Store(TEXT), Plain(TEXT)
        for offer in (
            ("house", "one", 1, ((0,),), 1), ("house", "One", 1, ((0,),), 1), ("house", "", 1, ((0,),), 1), ("house", "abcdefghi", 1, ((0,),), 1),
            ("house", "far", 10, ((0,),), 1), ("house", "far", -1, ((0,),), 1), ("house", "far", True, ((0,),), 1), ("house", "far", 1, (), 1),
            ("house", "far", 1, ((0,), (0,)), 1), ("house", "far", 1, ((0,), (1,), (0, 1)), 1), ("house", "far", 1, ((2,),), 1),
            ("house", "far", 1, ((1, 0),), 1), ("house", "far", 1, [(0,)], 1), ("house", "far", 1, ((0,),), 0), ("house", "far", 1, ((0,),), 100),
            ("house", "far", 1, ((0,),), True), ("house", "far", 1, ((0,),)), ("piece", 0, (0,), 1), ("piece", 1, (0,), 1), ("piece", 3, (0,), 1),
            ("piece", 0, (), 1), ("piece", 0, (2,), 1), ("piece", False, (1,), 1), ("piece", "one", (1,), 1), ("piece", 0, (1,), 1, 1),
            ("strength", 0, 1, 1), ("strength", 0, 10, 1), ("strength", 0, False, 1), ("strength", 2, 9, 1), ("without", 0, 0, 1),
            ("without", 1, 2, 1), ("without", 1, -1, 1), ("without", 1, False, 1), ("without", 1, (1,), 1), ("with", 1, 0, 1), (1, 0, 2, 1), (),
        ):
            self.assertEqual(self.check(store, plain, (offer,)), 0, offer)
            self.assertEqual(self.check(store, plain, (("strength", 0, 5, 1), offer)), 0, offer)
        one, other = ("strength", 0, 5, 1), ("strength", 0, 5, 2)
        for value in ((one, other), (other, one), (one, one), [one], (("without", 1, 0, 1), one), {one: 1}, one, ((one,),)):
            self.assertEqual(self.check(store, plain, value), 0, value)

    def test_any_values(self):
        store, plain = Store(TEXT), Plain(TEXT)
        for value in any_values():
            self.check(store, plain, value)
            self.check(store, plain, (value,))
            for word in ("house", "piece", "strength", "without"):
                for offer in ((word, value, 1, 1), (word, 0, value, 1), (word, 1, value, 1), (word, 0, 1, value), (word, "far", 1, value, 1), (word, value, 1, ((0,),), 1),
                              (word, "far", value, ((0,),), 1), (word, "far", 1, ((0,), value), 1), (value, 0, 2, 1)):
                    self.check(store, plain, (offer,))

    def test_choices_that_are_none(self):
        store = Store(TEXT)
        offers = (("piece", 0, (1,), 1), ("strength", 0, 7, 1), ("strength", 0, 8, 2))
        count = [row[1] for row in choices(store, offers)]
        for value in any_values() + [(3,), (0, 3), (1, 2), (0, 1, 2), (1, 0), (0, 0), (False,), (0, True), [0], (-1,)]:
            if any(alike(value, choice) for choice in count):
                self.assertIs(raised(chosen, store, offers, value), None)
            else:
                check_raises(self, BadChoice, value, chosen, store, offers, value)
                check_raises(self, BadChoice, value, chosen, choice=value, offers=offers, store=store)


if __name__ == "__main__":
    unittest.main()
