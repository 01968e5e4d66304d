"""Section 18, its first half: journals of halls."""

import random
import unittest

from sumshelves.errors import BadJournal, NoTrial, NothingToRedo
from sumshelves.hall import Hall
from sumshelves.journals import journal, read_journal
from sumshelves.stores import Store
from tests.plain import LETTERS, any_values, alike, check_raises, raised
from tests.plainhall import PlainHall, Refusal, done, some_deed
from tests.test_hall import COPIES, ODD, SUMS, state, texts

SEVEN = "items a\n" + "\n".join(f"house h{LETTERS[at]} 1 a" for at in range(7))
NINE = "items a\n" + "\n".join(f"house h{LETTERS[at]} 1 a" for at in range(9))


def plain_number(text):
    """Of a text the number of the first line that cannot stand, worked out plainly; None if all can."""
    lines = text.split("\n")
    if "hall" not in lines:
        return len(lines) + 1
    at = lines.index("hall")
    error = raised(Store, "\n".join(lines[:at]))
    if error is not None:
        return error.value
    if at > 7:
        return at + 1
    plain = PlainHall("\n".join(lines[:at]))
    for number, line in enumerate(lines[at + 1:], start=at + 2):
        deed = plain_deed(plain, line)
        try:
            if deed is None:
                return number
            plain.do(deed)
        except Refusal:
            return number
    return None


def plain_deed(plain, line):
    """The deed that a line tells; None if it tells none."""
    words = line.split(" ")
    if words == ["settle"]:
        return ("settle",)
    if len(words) != 2:
        return None
    if words[0] == "go":
        return ("go", int(words[1])) if words[1].isdigit() and str(int(words[1])) == words[1] and len(words[1]) < 10 else None
    names = {"come": plain.plain.items, "fall": plain.plain.houses, "rise": plain.plain.houses}.get(words[0], [])
    return (words[0], names.index(words[1])) if words[1] in names else None


def played(chance, text, often=14):
    """A hall with deeds, some of them undone, done again, tried or kept."""
    hall, plain = Hall(Store(text)), PlainHall(text)
    for _ in range(often):
        deed = some_deed(chance, plain)
        kind = chance.random()
        if kind < 0.8:
            if raised(done, hall, deed) is None:
                raised(done, plain, deed)
        else:
            hall.tried(lambda held: raised(done, held, deed), keep=kind < 0.9)
        plain.came = hall.came
    return hall


class Journals(unittest.TestCase):
    def check_bad(self, text, number):
        error = raised(read_journal, text)
        self.assertIs(type(error), BadJournal, (text, number))
        self.assertTrue(alike(error.value, number), (text, number, error.value))

    def check(self, text):
        number = plain_number(text)
        if number is None:
            self.assertEqual(journal(read_journal(text)), text)
            return 0
        self.check_bad(text, number)
        return 1

    def test_there_and_back(self):
        chance = random.Random(1)
        deeds = set()
        for text in list(texts(2, 60)) + [SUMS, COPIES, ODD] * 2:
            hall = played(chance, text)
            lines = journal(hall)
            self.assertEqual(lines.split("\n")[:len(hall.store) + 2], text.split("\n") + ["hall"])
            self.assertEqual(len(lines.split("\n")), len(hall.store) + 2 + hall.done)
            other = read_journal(text=lines)
            self.assertTrue(other == hall and alike(state(other), state(hall)))
            self.assertEqual(journal(hall=other), lines)
            check_raises(self, NothingToRedo, None, other.redo)
            check_raises(self, NoTrial, None, other.keep)
            deeds |= {line.split(" ")[0] for line in lines.split("\n")[len(hall.store) + 2:]}
            while other.done:
                other.undo()
            self.assertEqual(journal(other), text + "\nhall")
        self.assertEqual(deeds, {"come", "go", "fall", "rise", "settle"})

    def test_each_kind_of_deed(self):
        hall = Hall(Store(SUMS))
        lines = [SUMS, "hall"]
        for deed, line in ((("come", 1), "come b"), (("come", 0), "come a"), (("settle",), "settle"), (("fall", 2), "fall r"), (("go", 1), "go 1"),
                           (("rise", 2), "rise r"), (("come", 0), "come a"), (("go", 0), "go 0")):
            done(hall, deed)
            lines.append(line)
            self.assertEqual(journal(hall), "\n".join(lines))
            self.assertEqual(read_journal("\n".join(lines)), hall)
            hall.undo()
            self.assertEqual(journal(hall), "\n".join(lines[:-1]))
            hall.redo()
            with hall.trial():
                hall.undo()
                self.assertEqual(journal(hall), "\n".join(lines[:-1]))
            self.assertEqual(journal(hall), "\n".join(lines))
        # What is refused is not in it.
        raised(hall.go, 0), raised(hall.rise, 0), raised(hall.come, 7)
        self.assertEqual(journal(hall), "\n".join(lines))

    def test_lines_out_twice_exchanged_and_bent(self):
        chance = random.Random(3)
        bad = good = 0
        for text in list(texts(4, 14)) + [SUMS, COPIES, ODD]:
            lines = journal(played(chance, text)).split("\n")
            for at in range(len(lines)):
                others = [lines[:at] + lines[at + 1:], lines[:at + 1] + lines[at:], lines[:at] + lines[at + 1:at + 2] + lines[at:at + 1] + lines[at + 2:]]
                line = lines[at]
                for sign in ("", " ", "x", "0", "1", "Z", "+"):
                    place = chance.randint(0, len(line))
                    others += [lines[:at] + [line[:place] + sign + line[place + 1:]] + lines[at + 1:], lines[:at] + [line[:place] + sign + line[place:]] + lines[at + 1:]]
                others += [lines[:at] + more + lines[at:] for more in ([""], ["hall"], ["undo"], ["come"], ["settle "], [line + " "], [" " + line])]
                for other in chance.sample(others, 8):
                    told = self.check("\n".join(other))
                    bad += told
                    good += 1 - told
        self.assertGreater(min(bad, good), 50)

    def test_no_hall(self):
        for text, number in (("", 2), ("\n", 3), (SUMS, 5), (SUMS + "\n", 6), (SUMS + "\nHall", 6), (SUMS + "\nhall ", 6), ("items a\nhouse", 3),
                             ("nothing", 2), (SUMS + "\n hall\ncome a", 7), (NINE, 11), (SUMS + "\nhall\ncome a".replace("hall", "halls"), 7)):
            self.check_bad(text, number)
            self.assertEqual(plain_number(text), number)

    def test_two_halls(self):
        self.check_bad(SUMS + "\nhall\nhall", 6)
        self.check_bad(SUMS + "\nhall\ncome a\nhall\ncome a", 7)
        self.check_bad("hall\n" + SUMS + "\nhall", 1)
        self.check_bad("hall", 1)
        self.check_bad("hall\nhall", 1)

    def test_lines_of_the_store(self):
        self.check_bad("items a\nhall", 2)
        self.check_bad("items a\nhouse p 1 a\nhall\ncome a", 3)
        self.check_bad("items a\n\nhall", 2)
        self.check_bad("items a a\nhall", 1)
        self.check_bad("\nhall", 1)
        self.check_bad("items a\nhouse p 1 b\nhouse q 1 a\nhall\nnothing", 2)
        self.check_bad("items a\nhouse p 1 a\nhouse p 1 a\nhall", 3)
        self.check_bad(SUMS + "\n\nhall", 5)
        # More houses than six are one line too many at the line hall, a ninth one by itself.
        self.check_bad(SEVEN + "\nhall", 9)
        self.check_bad(SEVEN + "\nhouse x 1 a\nhall\ncome a", 10)
        self.check_bad(NINE + "\nhall", 10)
        self.check_bad(SEVEN + "\nhouse ha 1 a\nhall", 9)
        self.assertEqual(len(read_journal("items a\n" + "\n".join(SEVEN.split("\n")[1:7]) + "\nhall").store), 6)

    def test_lines_of_deeds(self):
        for line in ("", " ", "come", "come ", "come a ", " come a", "come  a", "come x", "come p", "come A", "come a b", "come 0", "Come a", "go", "go a", "go 0",
                     "go -1", "go 00", "go 1 ", "go 1x", "fall", "fall a", "fall x", "fall 0", "rise p", "rise", "settle 1", "settle ", "undo", "redo", "asks",
                     "hall", "room a", "house s 1 a", "items a b", "come a\tb"):
            self.check_bad(SUMS + "\nhall\n" + line, 6)
            self.check_bad(SUMS + "\nhall\nsettle\n" + line + "\nnothing", 7)
        self.check_bad(SUMS + "\nhall\n", 6)
        self.check_bad(SUMS + "\nhall\ncome a\n", 7)
        head = SUMS + "\nhall\ncome a\ncome b\n"
        for line in ("come a", "go 2", "go 01", "go +1", "go 1000000000", "go 0000000001", "fall s"):
            self.check_bad(head + line, 8)
        self.check_bad(head + "go 0\ngo 0", 9)
        self.check_bad(head + "fall p\nfall p", 9)
        self.check_bad(head + "fall p\ngo 0", 9)
        self.check_bad(head + "rise p", 8)
        self.check_bad(ODD + "\nhall\ncome c", 6)
        self.assertEqual(len(read_journal(head + "go 1\ncome a")), 2)
        full = "items a b\nhouse p 9 a\nhouse q 9 b\nhall" + "\ncome a" * 8
        self.assertEqual(len(read_journal(full)), 8)
        self.check_bad(full + "\ncome b", 13)
        great = "items a b\nhouse p 9 a\nhouse q 9 b\nhall" + "\ncome a\ngo 0" + "".join(f"\ncome b\ngo {at}" for at in range(1, 300))
        self.assertEqual(read_journal(great).came, 300)
        self.check_bad(great + "\ngo 299", 605)

    def test_names_that_items_and_houses_share(self):
        text = "items hall come\nhouse come 1 hall\nhouse hall 1 come\nhall\ncome hall\nfall come\nrise come\ncome come\ngo 1"
        hall = read_journal(text)
        self.assertEqual((journal(hall), hall.asks), (text, ()))

    def test_what_is_no_string(self):
        for value in any_values():
            if type(value) is not str:
                self.check_bad(value, 0)
            else:
                self.check_bad(value, value.count("\n") + 2)
        self.assertEqual(BadJournal(0).value, 0)


if __name__ == "__main__":
    unittest.main()
