"""Section 18, its second half: what a desk answers to each line."""

import inspect
import random
import unittest

from sumshelves import errors
from sumshelves.desk import Desk
from sumshelves.errors import BadHouse, BadItem, BadJournal, BadLine, Full, NoAsk, NothingToRedo, NothingToUndo, Out, Refused
from sumshelves.journals import journal, read_journal
from sumshelves.plans import borne
from sumshelves.stores import Store
from tests.plain import alike, any_values, check_raises, raised
from tests.plainhall import PlainHall, Refusal, done, some_deed
from tests.test_hall import COPIES, ODD, SUMS, state, texts

HEAD = SUMS + "\nhall"


class Case(unittest.TestCase):
    def raises(self, desk, line, kind, value):
        """That a line raises just this error, and changes nothing."""
        before = journal(desk.hall), state(desk.hall)
        error = raised(desk.say, line)
        self.assertIs(type(error), kind, line)
        self.assertTrue(alike(error.value, value) or error.value is value, line)
        self.assertEqual((journal(desk.hall), state(desk.hall)), before)


class Answers(Case):
    def test_each_line(self):
        desk = Desk(HEAD)
        for line, answer in (
            ("asks", "."), ("down", "."), ("of a", "."), ("load p", "0"), ("settle", "0"), ("come a", "0"), ("come a", "1"), ("at 0", "p"), ("at 1", "q r"),
            ("asks", "0 1"), ("of a", "0 1"), ("of b", "."), ("load q", "1"), ("room b", "no"), ("room a", "no"), ("fall r", "1"), ("down", "r"), ("asks", "0"),
            ("room b", "yes 0"), ("fall q", "."), ("down", "q r"), ("rise r", "ok"), ("down", "q"), ("rise q", "ok"), ("go 0", "ok"), ("undo", "ok"), ("asks", "0"),
            ("redo", "ok"), ("asks", "."), ("come b", "2"), ("at 2", "p r"), ("room a", "yes 1"), ("come a", "3"), ("at 2", "q"), ("asks", "2 3"), ("of b", "2"),
            ("fall p", "3"), ("fall q", "2"), ("asks", "."), ("down", "p q"), ("bears a 1 b 1", "yes"), ("bears a 2 b 1", "no"), ("bears a 2", "yes"),
            ("bears b 0 a 0", "yes"), ("bears b 3", "no"), ("bears a 999999999", "no"),
        ):
            self.assertEqual(desk.say(line), answer, (line, journal(desk.hall)))

    def test_settle_tells_how_many_moved(self):
        desk = Desk(HEAD + "\ncome a\ncome a\ngo 0")
        self.assertEqual([desk.say("at 1"), desk.say("settle"), desk.say("at 1"), desk.say("settle")], ["q r", "1", "p", "0"])

    def test_beside_a_plain_hall(self):
        chance = random.Random(1)
        for text in list(texts(2, 40)) + [SUMS, COPIES, ODD]:
            desk, plain = Desk(text + "\nhall"), PlainHall(text)
            hall = desk.hall
            for _ in range(20):
                deed = some_deed(chance, plain)
                names = {"come": plain.plain.items, "fall": plain.plain.houses, "rise": plain.plain.houses}.get(deed[0])
                line = " ".join([deed[0]] + [names[number] if names else str(number) for number in deed[1:]])
                try:
                    told = plain.do(deed) if deed[0] not in ("undo", "redo") else done(plain, deed)
                except Refusal as refusal:
                    self.assertIs(type(raised(desk.say, line)), getattr(errors, refusal.name))
                    continue
                if isinstance(told, tuple):
                    told = " ".join(map(str, told)) or "."
                self.assertEqual(desk.say(line), "ok" if told is None else str(told))
                self.assertIs(desk.hall, hall)
                self.check_questions(desk, plain)

    def check_questions(self, desk, plain):
        houses = plain.plain.houses
        self.assertEqual(desk.say("asks"), " ".join(str(ask[0]) for ask in plain.asks) or ".")
        self.assertEqual(desk.say("down"), " ".join(houses[house] for house in plain.down) or ".")
        for number, _, seat in plain.asks:
            self.assertEqual(desk.say(f"at {number}"), " ".join(houses[house] for house in seat))
        for house, name in enumerate(houses):
            self.assertEqual(desk.say("load " + name), str(sum(house in seat for _, _, seat in plain.asks)))
        for item, name in enumerate(plain.plain.items):
            self.assertEqual(desk.say("of " + name), " ".join(str(ask[0]) for ask in plain.asks if ask[1] == item) or ".")
            if plain.families[item]:
                best = plain.room(item)
                self.assertEqual(desk.say("room " + name), "no" if best is None else f"yes {best[0]}")
            else:
                self.raises(desk, "room " + name, Out, item)

    def test_bears(self):
        chance = random.Random(3)
        words = set()
        for text in list(texts(4, 30)) + [SUMS, ODD]:
            desk, store, names = Desk(text + "\nhall"), Store(text), PlainHall(text).plain.items
            raised(desk.say, "come " + names[0]), desk.say("fall " + store.house_names[0])
            for _ in range(5):
                some = chance.sample(names, chance.randint(1, len(names)))
                rates = {name: chance.randint(0, 3) for name in some}
                line = "bears " + " ".join(f"{name} {rates[name]}" for name in some)
                told = borne(store, tuple((rates.get(name, 0), 1) for name in names))[0]
                self.assertEqual(desk.say(line), "yes" if told == "plan" else "no")
                words.add(told)
        self.assertEqual(words, {"plan", "prices", "out"})


class Wrong(Case):
    def test_lines_of_no_form(self):
        desk = Desk(HEAD + "\ncome a\ncome b\nfall r")
        for line in (
            "", " ", "come", "come ", "come a ", " come a", "come  a", "come a b", "come A", "come 0", "come abcdefghi", "come a1", "Come a", "comes a", "go", "go a", "go -1",
            "go 00", "go 01", "go 1234567890", "go 1 2", "go +1", "go 1.0", "rise", "rise 1", "fall", "fall p q", "undo 1", "undo ", "redo redo", "settle 0", "at", "at p",
            "at 0 1", "at 00", "asks 0", "asks a", "of", "of 0", "of a b", "down p", "load", "load 1", "load p p", "room", "room 3", "bears", "bears ", "bears a", "bears a b",
            "bears a 1 b", "bears a 1 b 1 a 1", "bears a 1 a 1", "bears x 1 x 1", "bears 1 a", "bears a -1", "bears a 01", "bears a 1  b 1", "bears a 1 ", "bears a 1234567890",
            "hall", "keep", "trial", "len", "come\na", "asks\n", "house s 1 a", "journal", "copy",
        ):
            self.raises(desk, line, BadLine, line)
        for value in any_values():
            self.raises(desk, value, BadLine, value)
        self.assertRaises(TypeError, desk.say)
        self.assertEqual(desk.say(line="asks"), "0 1")

    def test_names_of_none(self):
        desk = Desk(HEAD)
        for line, kind, word in (
            ("come x", BadItem, "x"), ("come p", BadItem, "p"), ("of q", BadItem, "q"), ("room abcdefgh", BadItem, "abcdefgh"), ("fall a", BadHouse, "a"),
            ("rise b", BadHouse, "b"), ("load x", BadHouse, "x"), ("bears x 1", BadItem, "x"), ("bears a 1 x 1", BadItem, "x"), ("bears y 1 x 1", BadItem, "y"),
            ("bears b 1 a 1 p 1 q 1", BadItem, "p"), ("bears a 1 b 1 c 1 d 1 e 1", BadItem, "c"),
        ):
            self.raises(desk, line, kind, word)
        # What has no form is told ahead of names of none.
        for line in ("bears x 1 y", "bears x 1 y 1 x 2", "come x y", "fall x 1"):
            self.raises(desk, line, BadLine, line)

    def test_what_the_hall_raises_passes_on(self):
        desk = Desk(HEAD)
        self.raises(desk, "undo", NothingToUndo, None)
        self.raises(desk, "redo", NothingToRedo, None)
        desk.say("come a"), desk.say("come b")
        error = raised(desk.say, "come a")
        self.assertIs(type(error), Refused)
        self.assertIs(desk.hall.shows_room(0, ("refused", error.value)), True)
        for line, kind, value in (("go 2", NoAsk, 2), ("at 2", NoAsk, 2), ("at 999999999", NoAsk, 999999999), ("rise p", errors.Up, 0), ("redo", NothingToRedo, None)):
            self.raises(desk, line, kind, value)
        desk.say("fall p")
        self.raises(desk, "fall p", errors.Down, 0)
        self.raises(desk, "at 0", NoAsk, 0)
        odd = Desk(ODD + "\nhall")
        self.raises(odd, "come c", Out, 2)
        self.raises(odd, "room c", Out, 2)
        self.assertEqual([odd.say("of c"), odd.say("bears c 0"), odd.say("bears c 1")], [".", "yes", "no"])
        full = Desk("items a\nhouse p 9 a\nhouse q 1 a\nhall" + "\ncome a" * 8)
        self.raises(full, "come a", Full, 8)
        self.assertEqual(full.say("room a"), "yes 0")

    def test_journals_that_are_none(self):
        for text, number in ((SUMS, 5), (HEAD + "\n", 6), (HEAD + "\ngo 0", 6), ("hall", 1), (None, 0), ((HEAD,), 0), (HEAD + "\nasks", 6)):
            self.assertTrue(alike(raised(Desk, text).value, number))
            self.assertIs(type(raised(Desk, text)), BadJournal)
        for value in any_values():
            if type(value) is not str:
                check_raises(self, BadJournal, 0, Desk, value)

    def test_interface(self):
        self.assertEqual(list(inspect.signature(vars(Desk)["say"]).parameters), ["self", "line"])
        self.assertEqual(list(inspect.signature(vars(Desk)["__init__"]).parameters), ["self", "text"])
        self.assertEqual((Desk.__module__, list(inspect.signature(journal).parameters), list(inspect.signature(read_journal).parameters)),
                         ("sumshelves.desk", ["hall"], ["text"]))
        desk = Desk(text=HEAD + "\ncome a")
        hall = desk.hall
        self.assertEqual(desk.hall, read_journal(HEAD + "\ncome a"))
        with hall.trial():
            self.assertEqual(desk.say("come b"), "1")
        self.assertEqual([desk.say("asks"), desk.say("undo"), desk.say("asks"), desk.say("redo")], ["0", "ok", ".", "ok"])
        self.assertIs(desk.hall, hall)


if __name__ == "__main__":
    unittest.main()
