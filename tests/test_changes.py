"""Section 4: stores with other houses, strengths and pieces, answers, having, side_by_side."""

import itertools
import unittest

from sumshelves.errors import (
    BadContent, BadHouse, BadItem, BadName, BadPiece, BadPieces, BadStrength, Bare, Called, Few, Full, Held, Many, NoPiece,
)
from sumshelves.stores import Store, answers, having, side_by_side
from tests.plain import Plain, any_values, check_raises, made_texts, number_below, right_content, rising

TEXT = "items a b c\nhouse one 2 a\nhouse two 0 b c\nhouse three 9 a+b+c"
EIGHT = "items a b\n" + "\n".join(f"house {name} 1 a" for name in "pqrstuvw")
WRONG_NAMES = ["", "One", "one1", "a b", " a", "a ", "abcdefghi", "a\n", "a+b", "_", "0", ["x"], ("x",), {"x": 1}]
WRONG_PIECES = [
    (), ((),), ((0,), (0,)), ((0,), (1,), (2,)), ((1, 0),), ((0, 0),), ((3,),), ((-1,),), ((True,),), ((0, True),), [(0,)],
    ([0],), ((0,), [1]), ((0,), (3,)), ((0,), ()), (0,), 0, "a", ("a",), ((0,), None), (("0",),), ((0, 1, 2, 3),),
    ((0,), (1,), (1,)), {(0,): (1,)}, (((0,),),), ((0,), (True,)), ((False,), (1,)),
]


def is_free_name(value, store):
    letters = "abcdefghijklmnopqrstuvwxyz"
    return type(value) is str and 1 <= len(value) <= 8 and set(value) <= set(letters) and value not in store.house_names


def is_pieces(value, many):
    return (type(value) is tuple and len(value) in (1, 2) and all(rising(piece, many) and piece for piece in value)
            and len(set(value)) == len(value))


class Case(unittest.TestCase):
    def setUp(self):
        self.store = Store(TEXT)

    def tearDown(self):
        self.assertEqual(self.store.text, TEXT)
        self.assertEqual(self.store.item_names, ("a", "b", "c"))
        self.assertEqual(self.store.house_names, ("one", "two", "three"))
        self.assertEqual(self.store.strengths, (2, 0, 9))
        self.assertEqual(self.store.pieces, (((0,),), ((1,), (2,)), ((0, 1, 2),)))

    def same(self, told, text):
        """That this is the store of the text, in all that it tells."""
        store = Store(text)
        self.assertIs(type(told), Store)
        self.assertEqual(told, store)
        self.assertEqual(vars(told), vars(store))

    def wrong(self, kind, value, call, *args, **named):
        check_raises(self, kind, value, call, *args, **named)

    def wrong_houses(self, call):
        """That each value that is no house's number is told."""
        for value in any_values() + [3, -3]:
            if not number_below(value, 3):
                self.wrong(BadHouse, value, call, value)


class WithHouse(Case):
    def test_behind_the_others(self):
        self.same(self.store.with_house("four", 7, ((1, 2),)), TEXT + "\nhouse four 7 b+c")
        self.same(self.store.with_house("x", 0, ((0, 1, 2), (0,))), TEXT + "\nhouse x 0 a+b+c a")
        self.same(self.store.with_house("abcdefgh", 9, ((2,), (1,))), TEXT + "\nhouse abcdefgh 9 c b")
        self.same(self.store.with_house("a", 1, ((0,),)), TEXT + "\nhouse a 1 a")

    def test_up_to_eight(self):
        store = self.store
        for name in "pqrst":
            store = store.with_house(name, 1, ((0,),))
        self.assertEqual(len(store), 8)
        self.wrong(Full, 8, store.with_house, "u", 1, ((0,),))

    def test_all_strengths_and_pieces(self):
        some = [piece for size in (1, 2, 3) for piece in itertools.combinations(range(3), size)]
        for strength, piece in itertools.product(range(10), some):
            told = self.store.with_house("x", strength, (piece,))
            self.assertEqual((told.strengths[3], told.pieces[3]), (strength, (piece,)))
        for two in itertools.permutations(some, 2):
            self.assertEqual(self.store.with_house("x", 1, two).pieces[3], two)

    def test_bad_name(self):
        for value in any_values() + WRONG_NAMES + ["one", "two", "three"]:
            if not is_free_name(value, self.store):
                self.wrong(BadName, value, self.store.with_house, value, 1, ((0,),))

    def test_bad_strength(self):
        for value in any_values() + [10, -1, "5", (5,)]:
            if not number_below(value, 10):
                self.wrong(BadStrength, value, self.store.with_house, "x", value, ((0,),))

    def test_bad_pieces(self):
        for value in any_values() + WRONG_PIECES:
            if not is_pieces(value, 3):
                self.wrong(BadPieces, value, self.store.with_house, "x", 1, value)

    def test_the_first_of_several(self):
        eight = Store(EIGHT)
        self.wrong(BadName, "one", self.store.with_house, "one", 10, ())
        self.wrong(BadName, "p", eight.with_house, "p", 1, ((0,),))
        self.wrong(BadStrength, 10, self.store.with_house, "x", 10, ())
        self.wrong(BadStrength, True, eight.with_house, "x", True, ((0,),))
        self.wrong(BadPieces, ((2,),), eight.with_house, "x", 1, ((2,),))
        self.wrong(Full, 8, eight.with_house, "x", 1, ((1,),))
        self.assertEqual(eight.text, EIGHT)


class WithoutHouse(Case):
    def test_each(self):
        lines = TEXT.split("\n")
        for house in range(3):
            self.same(self.store.without_house(house), "\n".join(lines[:house + 1] + lines[house + 2:]))
        eight = Store(EIGHT)
        self.same(eight.without_house(7), EIGHT.rsplit("\n", 1)[0])

    def test_errors(self):
        self.wrong_houses(self.store.without_house)
        two = self.store.without_house(0)
        for house in (0, 1):
            self.wrong(Few, 2, two.without_house, house)
        for value in (2, -1, True, None, "two"):
            self.wrong(BadHouse, value, two.without_house, value)


class WithStrength(Case):
    def test_each(self):
        lines = TEXT.split("\n")
        for house, strength in itertools.product(range(3), range(10)):
            words = lines[house + 1].split(" ")
            line = " ".join([*words[:2], str(strength), *words[3:]])
            told = "\n".join(lines[:house + 1] + [line] + lines[house + 2:])
            self.same(self.store.with_strength(house, strength), told)

    def test_errors(self):
        self.wrong_houses(lambda value: self.store.with_strength(value, 1))
        self.wrong_houses(lambda value: self.store.with_strength(value, 10))
        for value in any_values() + [10, -1, "5", (5,)]:
            if not number_below(value, 10):
                self.wrong(BadStrength, value, self.store.with_strength, 1, value)


class WithPiece(Case):
    def test_each(self):
        self.same(self.store.with_piece(0, (1,)), TEXT.replace("one 2 a", "one 2 a b"))
        self.same(self.store.with_piece(0, (0, 2)), TEXT.replace("one 2 a", "one 2 a a+c"))
        self.same(self.store.with_piece(2, (0,)), TEXT + " a")
        for size in (1, 2, 3):
            for piece in itertools.combinations(range(3), size):
                if piece != (0,):
                    self.assertEqual(self.store.with_piece(0, piece).pieces[0], ((0,), piece))

    def test_errors(self):
        self.wrong_houses(lambda value: self.store.with_piece(value, (0,)))
        self.wrong_houses(lambda value: self.store.with_piece(value, ()))
        wrong = [(), (3,), (0, 3), (1, 0), (0, 0), [1], "b", 1, (True,), (0, True), ((1,),), ("b",), (-1,), (0, 1, 2, 3)]
        for house in (0, 1, 2):
            for value in any_values() + wrong:
                if not (rising(value, 3) and value):
                    self.wrong(BadPiece, value, self.store.with_piece, house, value)
        for house, piece in ((0, (0,)), (1, (1,)), (1, (2,)), (2, (0, 1, 2))):
            self.wrong(Held, piece, self.store.with_piece, house, piece)
        for piece in ((0,), (0, 1), (0, 1, 2)):
            self.wrong(Many, 2, self.store.with_piece, 1, piece)


class WithoutPiece(Case):
    def test_each(self):
        self.same(self.store.without_piece(1, 0), TEXT.replace("two 0 b c", "two 0 c"))
        self.same(self.store.without_piece(1, 1), TEXT.replace("two 0 b c", "two 0 b"))
        self.assertEqual(self.store.with_piece(2, (1,)).without_piece(2, 1), self.store)

    def test_errors(self):
        self.wrong_houses(lambda value: self.store.without_piece(value, 0))
        self.wrong_houses(lambda value: self.store.without_piece(value, 9))
        for house, many in ((0, 1), (1, 2), (2, 1)):
            for value in any_values():
                if not number_below(value, many):
                    self.wrong(NoPiece, value, self.store.without_piece, house, value)
        self.wrong(Bare, 0, self.store.without_piece, 0, 0)
        self.wrong(Bare, 2, self.store.without_piece, 2, 0)


class Answers(Case):
    def test_beside_plain(self):
        for text in made_texts(3, 1):
            store, plain = Store(text), Plain(text)
            for house, content in itertools.product(range(len(store)), plain.contents()):
                told = "".join(str(plain.value(piece, content)) for piece in plain.pieces[house])
                self.assertEqual(answers(store, house, content), told)
            for item in range(len(store.item_names)):
                told = tuple(k for k, pieces in enumerate(plain.pieces) if any(item in piece for piece in pieces))
                self.assertEqual(having(store, item), told)

    def test_having_where_none_has_it(self):
        self.assertEqual(having(Store("items a b\nhouse p 1 a\nhouse q 1 a"), 1), ())
        self.assertEqual([having(self.store, item) for item in range(3)], [(0, 2), (1, 2), (1, 2)])

    def test_errors(self):
        self.wrong_houses(lambda value: answers(self.store, value, "000"))
        self.wrong_houses(lambda value: answers(self.store, value, "00"))
        wrong = ["", "00", "0000", "002", "00 ", "abc", ("0", "0", "0"), ["0", "0", "0"], 0, 111, None, (0, 0, 0), b"000"]
        for value in any_values() + wrong:
            if not right_content(value, 3):
                self.wrong(BadContent, value, answers, self.store, 1, value)
        for value in any_values() + [3, -1, "a"]:
            if not number_below(value, 3):
                self.wrong(BadItem, value, having, self.store, value)


class SideBySide(Case):
    def test_both(self):
        other = Store("items d\nhouse x 1 d\nhouse y 3 d")
        self.same(side_by_side(self.store, other), "items a b c d\n" + TEXT.split("\n", 1)[1] + "\nhouse x 1 d\nhouse y 3 d")
        told = side_by_side(other, self.store)
        self.same(told, "items d a b c\nhouse x 1 d\nhouse y 3 d\n" + TEXT.split("\n", 1)[1])
        self.assertEqual(told.pieces, (((0,),), ((0,),), ((1,),), ((2,), (3,)), ((1, 2, 3),)))

    def test_up_to_four_items_and_eight_houses(self):
        one = Store("items a b\n" + "\n".join(f"house {name} 1 a+b b" for name in "pqrs"))
        other = Store("items c d\n" + "\n".join(f"house {name} 2 d c+d" for name in "tuvw"))
        told = side_by_side(one, other)
        self.assertEqual((len(told), told.item_names, told.house_names), (8, ("a", "b", "c", "d"), tuple("pqrstuvw")))
        self.assertEqual(told.pieces, (((0, 1), (1,)),) * 4 + (((3,), (2, 3)),) * 4)
        self.wrong(Full, 8, side_by_side, one, other.with_house("x", 1, ((0,),)))
        self.wrong(Full, 8, side_by_side, one.with_house("x", 1, ((0,),)), other)
        self.wrong(Full, 4, side_by_side, one, Store("items c d e\nhouse x 1 c\nhouse y 1 c"))

    def test_an_item_called_as_a_house(self):
        other = Store("items one\nhouse a 1 one\nhouse b 1 one")
        self.assertEqual(side_by_side(self.store, other).house_names, ("one", "two", "three", "a", "b"))

    def test_called(self):
        for items, houses, told in (("x b a", "one y", "b"), ("c x", "y z", "c"), ("x y", "w three one", "three"),
                                    ("x", "one two", "one"), ("x y z", "w two", "two"), ("a b c d", "p q", "a")):
            lines = ["items " + items] + [f"house {name} 1 {items.split(' ')[0]}" for name in houses.split(" ")]
            other = Store("\n".join(lines))
            self.wrong(Called, told, side_by_side, self.store, other)
        self.wrong(Called, "a", side_by_side, self.store, self.store)

    def test_the_first_of_several(self):
        many = "items x y\n" + "\n".join(f"house {name} 1 x" for name in "stuvwz")
        self.wrong(Full, 4, side_by_side, self.store, Store(many))
        self.wrong(Full, 8, side_by_side, self.store, Store(many.replace("x y", "x")))
        self.wrong(Called, "two", side_by_side, self.store, Store(many.replace("house z", "house two")))
        self.wrong(Called, "b", side_by_side, self.store, Store(many.replace("x y", "x b")))


if __name__ == "__main__":
    unittest.main()
