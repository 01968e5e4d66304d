"""Section 3, as far as it speaks of stores and lots."""

import itertools
import random
import unittest

from sumshelves.lots import awake, blocker, had, items_had, least_lots, losing_lots, shows_had, used
from sumshelves.stores import Store, having
from tests.plain import Plain, made_texts

TEXTS = made_texts(9)


def renamed(text):
    """The text with all items and houses called otherwise, in the same sequence."""
    lines = [line.split(" ") for line in text.split("\n")]
    names = {name: "item" + "vwxyz"[k] for k, name in enumerate(lines[0][1:])}
    told = ["items " + " ".join(names.values())]
    for number, (_, _, strength, *words) in enumerate(lines[1:]):
        pieces = ["+".join(names[name] for name in word.split("+")) for word in words]
        told.append(" ".join(["house", "zyxwvuts"[number], strength, *pieces]))
    return "\n".join(told)


def moved(text, items, houses):
    """The text with its items and its houses in another sequence: what is told ahead stands at these numbers."""
    plain = Plain(text)
    names = [plain.items[item] for item in items]
    told = ["items " + " ".join(names)]
    for house in houses:
        words = []
        for piece in plain.pieces[house]:
            words.append("+".join(name for name in names if plain.items.index(name) in piece))
        told.append(" ".join(["house", plain.houses[house], str(plain.strengths[house]), *words]))
    return "\n".join(told)


def family(lots):
    return tuple(sorted(lots, key=lambda lot: (len(lot), lot)))


class Guarantees(unittest.TestCase):
    def test_just_one_of_both(self):
        for text in TEXTS[::4]:
            store, plain = Store(text), Plain(text)
            for item, lot in itertools.product(range(len(plain.items)), plain.lots()):
                word, _ = had(store, item, lot)
                self.assertIs(shows_had(store, item, lot, had(store, item, lot)), True)
                unseen = [shows_had(store, item, lot, ("unseen", content)) for content in plain.contents()]
                self.assertEqual(word == "unseen", any(unseen))
                self.assertEqual(word == "had", item in items_had(store, lot))

    def test_families_meet_and_tell_each_other(self):
        for text in TEXTS:
            store = Store(text)
            for item in range(len(store.item_names)):
                least = least_lots(store, item)
                if not least:
                    continue
                losing = losing_lots(store, item)
                for lot, lost in itertools.product(least, losing):
                    common = set(lot) & set(lost)
                    self.assertTrue(common)
                    if all(len(pieces) == 1 for pieces in store.pieces):
                        self.assertEqual(len(common) % 2, 1)
                self.assertEqual(blocker(len(store), least), losing)
                self.assertEqual(blocker(len(store), losing), least)
                self.assertEqual(used(store, item), tuple(sorted({house for lot in losing for house in lot})))

    def test_with_a_house_or_a_piece_more(self):
        for text in TEXTS:
            store = Store(text)
            piece = tuple(range(len(store.item_names)))
            more = [store.with_house("more", 3, ((0,),)), store.with_house("more", 0, (piece,))] if len(store) < 8 else []
            more += [store.with_piece(house, piece) for house in range(len(store)) if store.pieces[house] not in ((piece,),)
                     and len(store.pieces[house]) == 1]
            for other, item in itertools.product(more, range(len(store.item_names))):
                behind = [set(lot) for lot in least_lots(other, item)]
                for lot in least_lots(store, item):
                    self.assertTrue(any(within <= set(lot) for within in behind), (text, other.text, item))

    def test_with_another_strength(self):
        for text in TEXTS[::3]:
            store = Store(text)
            other = store.with_strength(0, 0).with_strength(1, 9)
            for item in range(len(store.item_names)):
                self.assertEqual(least_lots(store, item), least_lots(other, item))

    def test_other_names(self):
        for text in TEXTS:
            store, other = Store(text), Store(renamed(text))
            self.assertEqual((store.pieces, store.strengths), (other.pieces, other.strengths))
            for item in range(len(store.item_names)):
                self.assertEqual(least_lots(store, item), least_lots(other, item))
                self.assertEqual(having(store, item), having(other, item))
            for content in Plain(text).contents():
                self.assertEqual(awake(store, content), awake(other, content))

    def test_other_sequences(self):
        chance = random.Random(11)
        for text in TEXTS:
            store = Store(text)
            items = chance.sample(range(len(store.item_names)), len(store.item_names))
            houses = chance.sample(range(len(store)), len(store))
            other = Store(moved(text, items, houses))
            for at, item in enumerate(items):
                told = [tuple(sorted(houses[house] for house in lot)) for lot in least_lots(other, at)]
                self.assertEqual(family(told), least_lots(store, item))
                self.assertEqual(tuple(sorted(houses[house] for house in having(other, at))), having(store, item))
                if told:
                    lost = [tuple(sorted(houses[house] for house in lot)) for lot in losing_lots(other, at)]
                    self.assertEqual(family(lost), losing_lots(store, item))
            for content in Plain(text).contents():
                woken = awake(other, "".join(content[item] for item in items))
                self.assertEqual(tuple(sorted(houses[house] for house in woken)), awake(store, content))


if __name__ == "__main__":
    unittest.main()
