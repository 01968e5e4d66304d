"""Section 4: what a store's text is, what it tells, and which line cannot stand."""

import itertools
import unittest

from sumshelves.errors import BadStore
from sumshelves.stores import Store
from tests.plain import Plain, any_values, check_raises, made_texts, raised

GOOD = "items a b c d\nhouse one 2 a\nhouse two 0 b c+d\nhouse three 9 a+b+c+d a+d"


def with_line(number, line, text=GOOD):
    """The text with another line of this number, from 1."""
    lines = text.split("\n")
    lines[number - 1] = line
    return "\n".join(lines)


class Texts(unittest.TestCase):
    def test_what_a_text_tells(self):
        store = Store(GOOD)
        self.assertEqual(store.text, GOOD)
        self.assertEqual(store.item_names, ("a", "b", "c", "d"))
        self.assertEqual(store.house_names, ("one", "two", "three"))
        self.assertEqual(store.strengths, (2, 0, 9))
        self.assertEqual(store.pieces, (((0,),), ((1,), (2, 3)), ((0, 1, 2, 3), (0, 3))))
        self.assertEqual(len(store), 3)

    def test_texts_of_all_sizes(self):
        for text in made_texts(1):
            store, plain = Store(text), Plain(text)
            self.assertEqual(store.text, text)
            self.assertEqual(store.item_names, tuple(plain.items))
            self.assertEqual(store.house_names, tuple(plain.houses))
            self.assertEqual(store.strengths, tuple(plain.strengths))
            self.assertTrue(all(type(strength) is int for strength in store.strengths))
            told = tuple(tuple(tuple(sorted(piece)) for piece in pieces) for pieces in plain.pieces)
            self.assertEqual(store.pieces, told)
            self.assertEqual(len(store), len(plain.houses))

    def test_every_strength_and_every_piece(self):
        for figure in range(10):
            self.assertEqual(Store(with_line(2, f"house one {figure} a")).strengths[0], figure)
        for size in range(1, 5):
            for some in itertools.combinations(range(4), size):
                word = "+".join("abcd"[item] for item in some)
                self.assertEqual(Store(with_line(2, "house one 1 " + word)).pieces[0], (some,))

    def test_names(self):
        self.assertEqual(Store("items a\nhouse a 1 a\nhouse b 1 a").house_names, ("a", "b"))
        self.assertEqual(Store("items items\nhouse house 1 items\nhouse items 1 items").house_names, ("house", "items"))
        long = Store("items abcdefgh z\nhouse stuvwxyz 1 abcdefgh\nhouse z 1 z")
        self.assertEqual((long.item_names, long.house_names), (("abcdefgh", "z"), ("stuvwxyz", "z")))
        for letter in "abcdefghijklmnopqrstuvwxyz":
            self.assertIn(letter, Store(f"items {letter}\nhouse {letter} 1 {letter}\nhouse other 1 {letter}"))


class Alike(unittest.TestCase):
    def test_equal_just_if_the_texts_are(self):
        texts = sorted(set(made_texts(2, 1, 4))) + [with_line(2, "house one 3 a"), with_line(2, "house uno 2 a"), GOOD]
        for one, other in itertools.product(texts, texts):
            self.assertIs(Store(one) == Store(other), one == other)
            self.assertIs(Store(one) != Store(other), one != other)

    def test_equal_nothing_else(self):
        store = Store(GOOD)
        for value in any_values() + [GOOD, (GOOD,), store.pieces, 3, {"text": GOOD}]:
            self.assertIs(store == value, False)
            self.assertIs(value == store, False)
            self.assertIs(store != value, True)

    def test_in(self):
        store = Store("items a b\nhouse p 1 a\nhouse two 1 b")
        for name in ("p", "two"):
            self.assertIs(name in store, True)
        for value in any_values() + ["tw", "two ", "pp", "P", "house", ["p"], ("p",), ("p", "two"), {"p": 1}, store]:
            self.assertIs(value in store, value == "p")


class Wrong(unittest.TestCase):
    def check(self, number, text):
        error = raised(Store, text)
        self.assertIs(type(error), BadStore, text)
        self.assertIs(type(error.value), int)
        self.assertEqual(error.value, number, text)

    def test_no_string(self):
        for value in any_values() + [["items a"], (GOOD,), Store(GOOD), True, 0]:
            if not isinstance(value, str):
                self.check(0, value)

    def test_other_strings(self):
        for value in any_values():
            if isinstance(value, str):
                self.check(1, value)

    def test_line_of_items(self):
        for line in ("", " ", "items", "items ", "items  a", " items a", "items a ", "items a  b", "item a", "Items a",
                     "itemsa", "house a", "house one 2 a", "items a b c d e", "items a a", "items a b a", "items A",
                     "items a1", "items a+b", "items a,b", "items abcdefghi", "items a b-c", "items\ta", "items a_b",
                     "items a b c d ", "items a `", "items a {", "items a\tb", "items a items b c d"):
            self.check(1, with_line(1, line))
            self.check(1, line)

    def test_line_of_a_house(self):
        wrong = ("", " ", "house", "house one", "house one 2", "house one 2 ", "house one a", "house 2 a", "one 2 a",
                 "house  one 2 a", "house one  2 a", "house one 2  a", " house one 2 a", "house one 2 a ", "House one 2 a",
                 "items a b c d", "item one 2 a", "hall", "houses one 2 a", "houseone 2 a", "house one 2 a b ",
                 "house one 2 a  b", "house one,2 a", "house\tone 2 a", "house one 2 a\tb")
        for line, number in itertools.product(wrong, (2, 3, 4)):
            self.check(number, with_line(number, line))

    def test_name_of_a_house(self):
        for name in ("One", "one1", "o-ne", "abcdefghi", "1", "a+b", "", "_", "{", "`"):
            self.check(2, with_line(2, f"house {name} 2 a"))
        for number, name in ((3, "one"), (4, "one"), (4, "two")):
            self.check(number, with_line(number, f"house {name} 2 a"))

    def test_strength(self):
        for word in ("10", "00", "02", "-1", "+1", "x", "a", "1.0", "", "99", "0x", "1_"):
            self.check(3, with_line(3, f"house two {word} a"))

    def test_pieces(self):
        for words in ("b+a", "a+a", "a+b+a", "d+c", "a+c+b", "a+b+c+d+a", "e", "a+e", "e+a", "one", "A", "", "+", "a+", "+a",
                      "a++b", "a a", "a+b a+b", "a b c", "a b a", "a b a+b", "a e", "e a", "a b+a", "a+b b+a", "a,b",
                      "0", "aa", "ab", "a&b", "a b+", "b+c+d+a"):
            for number in (2, 3, 4):
                self.check(number, with_line(number, f"house x 2 {words}"))

    def test_pieces_of_items_that_are_not_there(self):
        self.check(2, "items a\nhouse p 1 b\nhouse q 1 a")
        self.check(3, "items a b\nhouse p 1 a\nhouse q 1 a+c")
        self.check(3, "items ab\nhouse p 1 ab\nhouse q 1 a+b")

    def test_lines_left_out_doubled_exchanged(self):
        lines = GOOD.split("\n")
        self.check(1, "\n".join(lines[1:]))
        self.check(2, "\n".join([lines[0], *lines]))
        for number in (2, 3, 4):
            self.check(number + 1, "\n".join(lines[:number] + lines[number - 1:]))
            moved = [lines[number - 1]] + lines[1:number - 1] + [lines[0]] + lines[number:]
            self.check(1, "\n".join(moved))
        self.check(5, GOOD + "\n" + lines[0])

    def test_line_without_signs_at_the_end(self):
        self.check(5, GOOD + "\n")
        self.check(5, GOOD + "\n\n")
        self.check(2, "items a\n")
        self.check(3, "items a\nhouse p 1 a\n")
        self.check(2, "items a\n\nhouse p 1 a\nhouse q 1 a")
        self.check(1, "\n" + GOOD)
        self.check(1, "")
        self.check(1, "\n")

    def test_too_few_houses(self):
        self.check(2, "items a")
        self.check(2, "items a b c d")
        self.check(3, "items a\nhouse p 1 a")
        self.check(3, "items a b\nhouse p 1 a b")

    def test_ninth_house(self):
        lines = ["items a"] + [f"house {name} 1 a" for name in "pqrstuvwxyz"]
        self.assertEqual(len(Store("\n".join(lines[:9]))), 8)
        self.check(10, "\n".join(lines[:10]))
        self.check(10, "\n".join(lines[:12]))
        self.check(10, "\n".join(lines[:9]) + "\n")
        self.check(10, "\n".join(lines[:9]) + "\nno house")
        self.check(5, with_line(5, "house p 1 a", "\n".join(lines[:10])))

    def test_the_first_wrong_line_is_told(self):
        self.check(1, "item a\nhouse p 1 b")
        self.check(2, "items a\nhouse p 1 b\nhouse p 10 a\n")
        self.check(3, "items a\nhouse p 1 a\nhouse p 1 a\nhouse q 1 b")

    def test_each_line_spoilt_by_one_sign(self):
        for at in range(len(GOOD)):
            spoilt = GOOD[:at] + "!" + GOOD[at + 1:]
            # A line feed that is spoilt joins the next line to this one.
            self.check(GOOD[:at].count("\n") + 1, spoilt)

    def test_a_call_that_raises_keeps_the_value_as_it_is(self):
        value = [GOOD]
        check_raises(self, BadStore, 0, Store, value)
        self.assertEqual(value, [GOOD])


if __name__ == "__main__":
    unittest.main()
