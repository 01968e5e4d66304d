"""Section 17: a hall, beside a plain one that goes through all seatings."""

import inspect
import itertools
import random
import unittest

from sumshelves import errors, hall as hall_module
from sumshelves.errors import (
    BadHouse, BadItem, Down, Full, NoAsk, NothingToRedo, NothingToUndo, NoTrial, Out, Refused, SumError, Up, Wide,
)
from sumshelves.hall import Hall
from sumshelves.journals import journal
from sumshelves.stores import Store
from sumshelves.whole import shows_whole_plan, whole_plan
from tests.asking import ONE, NOUGHT, check_shown, near_values
from tests.plain import LETTERS, alike, any_values, check_raises, made_text, number_below, raised
from tests.plainhall import PlainHall, Refusal, best_seats, done, some_deed
from tests.test_choosing import Case as Trees

SUMS = "items a b\nhouse p 1 a\nhouse q 1 b\nhouse r 1 a+b"
ROOMY = "items a b\nhouse p 9 a\nhouse q 9 b\nhouse r 9 a+b\nhouse s 9 a b"
ODD = "items a b c\nhouse p 3 a\nhouse q 1 a+b\nhouse r 2 a"
SEVEN = "items a\n" + "\n".join(f"house h{LETTERS[at]} 1 a" for at in range(7))
COPIES = "items a b\nhouse p 2 a\nhouse q 1 a b\nhouse r 2 b\nhouse s 1 a"


def texts(seed, often):
    """Small stores, some with little strength, some items out."""
    chance = random.Random(seed)
    for _ in range(often):
        lines = made_text(chance, chance.randint(1, 4), chance.randint(2, 6)).split("\n")
        most = chance.choice([1, 2, 2, 3])
        yield "\n".join(lines[:1] + [" ".join(line.split(" ")[:2] + [str(chance.randint(0, most))] + line.split(" ")[3:]) for line in lines[1:]])


def state(hall):
    return hall.down, hall.asks, hall.came, hall.moved, hall.done


def told_all(hall):
    """All that can be seen of a hall, in copies of which deeds are undone, and done again."""
    copy, behind = hall.copy(), []
    while raised(copy.redo) is None:
        behind.append(state(copy))
    ahead = []
    while raised(copy.undo) is None:
        ahead.append(state(copy))
    return state(hall), len(hall), journal(hall), behind, ahead


class Case(Trees):
    def check_alike(self, hall, plain):
        self.assertTrue(alike(state(hall), plain.state()), (plain.journal(), state(hall), plain.state()))
        self.assertEqual(len(hall), len(plain.asks))
        self.assertEqual(journal(hall), plain.journal())
        for house in range(len(plain.plain.houses)):
            self.assertEqual(hall.load(house), sum(house in seat for _, _, seat in plain.asks))

    def check_refused(self, hall, item, tree):
        """That this is a tree of all that stand and an ask of the item, followed to its ends."""
        asked = [ask[1] for ask in hall.asks] + [item]
        asks = tuple(asked.count(other) for other in range(len(hall.store.item_names)))
        left = tuple(0 if house in hall.down else strength for house, strength in enumerate(hall.store.strengths))
        self.assertTrue(self.is_tree(PlainHall(hall.store.text).families, asks, left, tree))

    def do_both(self, hall, plain, deed):
        """Does a deed in both halls, which tell the same; its error's name, or None."""
        before = told_all(hall)
        try:
            told = plain.do(deed) if deed[0] not in ("undo", "redo") else done(plain, deed)
        except Refusal as refusal:
            error = raised(done, hall, deed)
            self.assertIs(type(error), getattr(errors, refusal.name), (plain.journal(), deed))
            if refusal.name == "Refused":
                self.check_refused(hall, deed[1], error.value)
            else:
                self.assertTrue(alike(error.value, refusal.value))
            self.assertTrue(alike(told_all(hall), before), (plain.journal(), deed))
            return refusal.name
        self.assertTrue(alike(done(hall, deed), told), (plain.journal(), deed))
        return None


class Plays(Case):
    def test_beside_a_plain_hall(self):
        chance = random.Random(1)
        seen, moved, lost = {}, 0, 0
        for text in list(texts(2, 70)) + [SUMS, COPIES, ODD] * 3:
            hall, plain = Hall(Store(text)), PlainHall(text)
            for _ in range(25):
                deed = some_deed(chance, plain)
                ahead = plain.moved, len(plain.asks)
                error = self.do_both(hall, plain, deed)
                self.check_alike(hall, plain)
                seen[(deed[0], error)] = seen.get((deed[0], error), 0) + 1
                moved += error is None and plain.moved > ahead[0] and deed[0] in ("come", "fall")
                lost += error is None and deed[0] == "fall" and len(plain.asks) < ahead[1]
        for kind in (("come", None), ("come", "Refused"), ("come", "Out"), ("go", None), ("go", "NoAsk"), ("fall", None), ("fall", "Down"),
                     ("rise", None), ("rise", "Up"), ("settle", None), ("undo", None), ("redo", None), ("undo", "NothingToUndo"), ("redo", "NothingToRedo")):
            self.assertGreater(seen.get(kind, 0), 5, kind)
        self.assertGreater(min(moved, lost), 15)

    def test_full(self):
        chance = random.Random(3)
        for text in (ROOMY, COPIES.replace(" 1 ", " 9 ").replace(" 2 ", " 9 ")):
            hall, plain = Hall(Store(text)), PlainHall(text)
            for _ in range(8):
                self.assertIs(self.do_both(hall, plain, ("come", chance.randrange(2))), None)
            self.assertEqual(self.do_both(hall, plain, ("come", 0)), "Full")
            self.check_alike(hall, plain)
            # Beside eight there is room to be told of all the same.
            self.assertEqual(hall.room(1), ("room", 0))
            hall.go(3)
            self.assertEqual(hall.come(1), 8)
            check_raises(self, Full, 8, hall.come, 0)
        tight = Hall(Store("items a b\nhouse p 8 a\nhouse q 1 b"))
        for _ in range(8):
            tight.come(0)
        self.assertEqual(tight.room(1), ("room", 0))
        self.assertEqual(tight.room(0)[0], "refused")
        check_raises(self, Full, 8, tight.come, 0)

    def test_room_is_as_come(self):
        chance = random.Random(4)
        words = {"room": 0, "refused": 0}
        for text in list(texts(5, 60)) + [SUMS, COPIES, ODD]:
            hall, plain = Hall(Store(text)), PlainHall(text)
            for _ in range(12):
                self.do_both(hall, plain, some_deed(chance, plain))
                for item in range(len(plain.plain.items)):
                    if not plain.families[item]:
                        check_raises(self, Out, item, hall.room, item)
                        check_raises(self, Out, item, hall.shows_room, item, None)
                        continue
                    word, told = hall.room(item)
                    self.assertIs(hall.shows_room(item, (word, told)), True)
                    best = plain.room(item)
                    self.assertEqual(word, "refused" if best is None else "room")
                    words[word] += 1
                    if best is None:
                        self.check_refused(hall, item, told)
                        if len(hall) < 8:
                            self.assertIs(type(raised(hall.come, item)), Refused)
                    else:
                        self.assertTrue(alike(told, best[0]))
                        if len(hall) < 8:
                            before = hall.moved
                            self.assertEqual(hall.tried(lambda held: (held.come(item), held.moved - before)[1]), told)
        self.assertGreater(min(words.values()), 60)

    def test_come_is_let_just_if_there_is_a_placing(self):
        chance = random.Random(6)
        words = set()
        for text in list(texts(7, 50)) + [SUMS, COPIES]:
            store = Store(text)
            hall, plain = Hall(store), PlainHall(text)
            for _ in range(15):
                self.do_both(hall, plain, some_deed(chance, plain))
                fallen = store
                for house in hall.down:
                    fallen = fallen.with_strength(house, 0)
                for item in range(len(plain.plain.items)):
                    if plain.families[item]:
                        asked = [ask[1] for ask in hall.asks] + [item]
                        asks = tuple(asked.count(other) for other in range(len(plain.plain.items)))
                        told = whole_plan(fallen, asks)
                        self.assertEqual(told[0], "placing" if hall.room(item)[0] == "room" else "barred")
                        words.add(told[0])
                        if told[0] == "barred":
                            self.assertIs(shows_whole_plan(fallen, asks, hall.room(item)), False)
                            self.assertIs(shows_whole_plan(fallen, asks, ("barred", hall.room(item)[1])), True)
        self.assertEqual(words, {"placing", "barred"})

    def test_by_hand(self):
        hall = Hall(Store(SUMS))
        self.assertEqual((hall.store.text, state(hall), len(hall)), (SUMS, ((), (), 0, 0, 0), 0))
        self.assertEqual([hall.come(0), hall.come(1), hall.asks], [0, 1, ((0, 0, (0,)), (1, 1, (1,)))])
        tree = raised(hall.come, 0).value
        self.check_refused(hall, 0, tree)
        # The first lost is the first tuple of so few: a goes, b stays.
        self.assertEqual([hall.fall(2), hall.fall(0), hall.asks, hall.fall(1), hall.asks], [(), (0,), ((1, 1, (1,)),), (1,), ()])
        self.assertEqual((hall.down, hall.came, hall.moved, hall.done), ((0, 1, 2), 2, 0, 5))
        self.assertEqual([hall.rise(1), hall.rise(0), hall.come(1), hall.asks, hall.down], [None, None, 2, ((2, 1, (1,)),), (2,)])
        # b moves out of the way, as its seats are p and r.
        hall = Hall(Store(SUMS))
        hall.fall(1)
        self.assertEqual([hall.come(1), hall.asks, hall.rise(1), hall.come(0), hall.asks, hall.moved],
                         [0, ((0, 1, (0, 2)),), None, 1, ((0, 1, (1,)), (1, 0, (0,))), 1])

    def test_first_of_several_seatings(self):
        # As tuples of tuples of numbers (0, 2) stands ahead of (1,).
        hall = Hall(Store("items a b\nhouse p 2 a+b\nhouse q 2 a\nhouse r 2 b"))
        self.assertEqual([hall.come(0), hall.asks], [0, ((0, 0, (0, 2)),)])
        self.assertEqual([hall.come(1), hall.asks[1:], hall.settle()], [1, ((1, 1, (0, 1)),), 0])
        # Of two that may be lost the first one is; of two lots the first one that is free is taken.
        hall = Hall(Store("items a\nhouse p 1 a\nhouse q 2 a"))
        self.assertEqual([hall.come(0), hall.come(0), hall.come(0), hall.asks], [0, 1, 2, ((0, 0, (0,)), (1, 0, (1,)), (2, 0, (1,)))])
        # Who is lost is first asked by how many move: 0 does not sit there.
        self.assertEqual([hall.fall(0), hall.asks], [(0,), ((1, 0, (1,)), (2, 0, (1,)))])
        hall.undo()
        self.assertEqual([hall.fall(1), hall.asks, hall.moved], [(1, 2), ((0, 0, (0,)),), 0])

    def test_the_fewest_move(self):
        chance = random.Random(8)
        for text in texts(9, 60):
            plain = PlainHall(text)
            hall = Hall(Store(text))
            for _ in range(10):
                deed = some_deed(chance, plain, ["come"] * 4 + ["fall", "rise", "go"])
                self.do_both(hall, plain, deed)
            moved, seats = hall.moved, [ask[2] for ask in hall.asks]
            if hall.asks:
                wanted = min(best for best in [best_seats(plain.rows(plain.asks), ((0, 0, None),) * len(seats), plain.left())])[1]
                self.assertEqual(hall.settle(), sum(one != other for one, other in zip(seats, wanted)))
                self.assertEqual(tuple(ask[2] for ask in hall.asks), wanted)
                self.assertEqual(hall.moved - moved, sum(one != other for one, other in zip(seats, wanted)))
                self.assertEqual(hall.settle(), 0)


class Sequences(Case):
    def test_the_same_asks_in_another_sequence(self):
        chance = random.Random(10)
        refused = 0
        for text in list(texts(11, 40)) + [SUMS, COPIES, ODD]:
            families = PlainHall(text).families
            items = [item for item in range(len(families)) if families[item]]
            if not items:
                continue
            asks = [chance.choice(items) for _ in range(chance.randint(2, 6))]
            ends = []
            for _ in range(4):
                chance.shuffle(asks)
                hall = Hall(Store(text))
                if any(raised(hall.come, item) is not None for item in asks):
                    refused += 1
                    ends.append(None)
                    continue
                ends.append({item: hall.room(item)[0] for item in items})
                hall.settle()
                ends[-1]["seats"] = sorted((item, seat) for _, item, seat in hall.asks) if len(set(asks)) == 1 else None
            self.assertTrue(all(end == ends[0] for end in ends), (text, asks))
        self.assertGreater(refused, 10)

    def test_settled_seats_hang_on_what_stands_alone(self):
        chance = random.Random(12)
        for text in texts(13, 40):
            plain = PlainHall(text)
            hall = Hall(Store(text))
            for _ in range(14):
                self.do_both(hall, plain, some_deed(chance, plain))
            hall.settle()
            other = Hall(Store(text))
            for house in hall.down:
                other.fall(house)
            for _, item, _ in hall.asks:
                other.come(item)
            other.settle()
            self.assertEqual([ask[1:] for ask in other.asks], [ask[1:] for ask in hall.asks])

    def test_copies_move_fewer_than_there_are_houses(self):
        chance = random.Random(14)
        for _ in range(25):
            houses = chance.randint(2, 6)
            rows = [" ".join(chance.sample("abc", chance.randint(1, 2))) for _ in range(houses)]
            text = "items a b c\n" + "\n".join(f"house h{LETTERS[at]} {chance.randint(0, 3)} {words}" for at, words in enumerate(rows))
            hall = Hall(Store(text))
            for _ in range(16):
                before = hall.moved
                if raised(hall.come, chance.randrange(3)) is None:
                    self.assertLess(hall.moved - before, houses)
                elif hall.asks and chance.random() < 0.5:
                    hall.go(chance.choice(hall.asks)[0])

    def test_other_names(self):
        chance = random.Random(15)
        for text in texts(16, 25):
            plain = PlainHall(text)
            words = text.split("\n")
            names = words[0].split(" ")[1:]
            other = Hall(Store("\n".join(
                [" ".join(["items"] + ["n" + name for name in names])]
                + [" ".join(line.split(" ")[:1] + ["m" + line.split(" ")[1]] + line.split(" ")[2:3]
                            + ["+".join("n" + name for name in word.split("+")) for word in line.split(" ")[3:]]) for line in words[1:]])))
            hall = Hall(Store(text))
            for _ in range(15):
                deed = some_deed(chance, plain)
                self.do_both(hall, plain, deed)
                error = raised(done, other, deed)
                self.assertTrue(alike(state(hall), state(other)), error)


class Undoing(Case):
    def test_behind_each_kind_of_deed(self):
        for deeds in ([("come", 0)], [("come", 0), ("go", 0)], [("come", 0), ("fall", 0)], [("fall", 0), ("rise", 0)], [("come", 0), ("settle",)]):
            hall = Hall(Store(SUMS))
            for deed in deeds[:-1]:
                done(hall, deed)
            before = told_all(hall)
            done(hall, deeds[-1])
            behind = told_all(hall)
            self.assertIs(hall.undo(), None)
            self.assertTrue(alike(told_all(hall)[:3], before[:3]))
            self.assertIs(hall.redo(), None)
            self.assertTrue(alike(told_all(hall), behind))
            hall.undo()
            for deed in deeds[::-1][1:]:
                hall.undo()
            self.assertEqual((state(hall), hall == Hall(Store(SUMS))), (((), (), 0, 0, 0), True))
            for deed in deeds:
                hall.redo()
            self.assertTrue(alike(told_all(hall), behind))
            check_raises(self, NothingToRedo, None, hall.redo)

    def test_another_deed_ends_redoing_and_a_refused_one_does_not(self):
        hall = Hall(Store(SUMS))
        hall.come(0), hall.come(0), hall.undo(), hall.undo()
        for call, values in ((hall.go, (5,)), (hall.rise, (0,)), (hall.fall, (3,)), (hall.come, (2,)), (hall.undo, ()), (hall.keep, ())):
            self.assertIsInstance(raised(call, *values), SumError)
        self.assertEqual([hall.redo(), hall.asks], [None, ((0, 0, (0,)),)])
        hall.settle()
        check_raises(self, NothingToRedo, None, hall.redo)
        # A coming that is taken back is none: its number is given anew.
        hall = Hall(Store(SUMS))
        self.assertEqual([hall.come(0), hall.undo(), hall.came, hall.come(1), hall.asks], [0, None, 0, 0, ((0, 1, (0, 2)),)])
        check_raises(self, NothingToUndo, None, Hall(Store(SUMS)).undo)


class Blocks(Case):
    def some_hall(self, chance, text):
        """A hall with deeds, some of them undone."""
        hall, plain = Hall(Store(text)), PlainHall(text)
        for _ in range(10):
            raised(done, hall, some_deed(chance, plain))
        raised(hall.undo)
        return hall, plain

    def play(self, chance, hall, plain):
        for _ in range(chance.randint(0, 5)):
            raised(done, hall, some_deed(chance, plain))

    def test_what_is_not_kept_leaves_nothing(self):
        chance = random.Random(17)
        for text in texts(18, 40):
            hall, plain = self.some_hall(chance, text)
            before = told_all(hall)
            with hall.trial() as held:
                self.assertIs(held, hall)
                self.play(chance, hall, plain)
            self.assertTrue(alike(told_all(hall), before))
            with hall.trial():
                self.play(chance, hall, plain)
                with hall.trial():
                    self.play(chance, hall, plain)
                    hall.keep()
                self.play(chance, hall, plain)
            self.assertTrue(alike(told_all(hall), before))
            check_raises(self, NoTrial, None, hall.keep)

    def test_what_is_kept_stays(self):
        chance = random.Random(19)
        for text in texts(20, 40):
            hall, plain = self.some_hall(chance, text)
            with hall.trial():
                self.play(chance, hall, plain)
                self.assertIs(hall.keep(), None)
                self.play(chance, hall, plain)
                behind = told_all(hall)
            self.assertTrue(alike(told_all(hall), behind))
            with hall.trial():
                hall.keep()
                with hall.trial():
                    self.play(chance, hall, plain)
                self.assertTrue(alike(told_all(hall), behind))
                with hall.trial():
                    self.play(chance, hall, plain)
                    hall.keep()
                behind = told_all(hall)
            self.assertTrue(alike(told_all(hall), behind))
            check_raises(self, NoTrial, None, hall.keep)

    def test_errors_leave_nothing_and_pass_on(self):
        chance = random.Random(21)
        for text in texts(22, 30):
            hall, plain = self.some_hall(chance, text)
            before = told_all(hall)
            for error in (KeyError("x"), NoAsk(7), StopIteration(), KeyboardInterrupt(), ZeroDivisionError()):
                with self.assertRaises(type(error)) as caught:
                    with hall.trial():
                        self.play(chance, hall, plain)
                        hall.keep()
                        raise error
                self.assertIs(caught.exception, error)
                self.assertTrue(alike(told_all(hall), before))
                with hall.trial():
                    with self.assertRaises(type(error)):
                        with hall.trial():
                            self.play(chance, hall, plain)
                            hall.keep()
                            raise error
                    self.assertTrue(alike(told_all(hall), before))
                    hall.keep()
                self.assertTrue(alike(told_all(hall), before))
            check_raises(self, NoTrial, None, hall.keep)

    def test_undoing_within_a_block(self):
        hall = Hall(Store(SUMS))
        hall.come(0), hall.come(0), hall.undo()
        before = told_all(hall)
        with hall.trial():
            hall.undo()
            check_raises(self, NothingToUndo, None, hall.undo)
            hall.come(1)
            check_raises(self, NothingToRedo, None, hall.redo)
        self.assertTrue(alike(told_all(hall), before))
        with hall.trial():
            hall.redo()
            hall.keep()
        self.assertEqual((hall.done, len(hall)), (2, 2))
        hall.undo()
        self.assertTrue(alike(told_all(hall), before))

    def test_a_block_begins_where_it_is_entered(self):
        hall = Hall(Store(SUMS))
        block = hall.trial()
        hall.come(0)
        with block:
            hall.come(0)
        self.assertEqual((len(hall), hall.done), (1, 1))
        with hall.trial(), hall.trial():
            hall.come(0)
            hall.keep()
        self.assertEqual((len(hall), hall.done), (1, 1))

    def test_tried(self):
        for keep, stays in ((True, True), (False, False), (1, False), (None, False), ("yes", False), ((True,), False), ([True], False), (0, False), (2, False)):
            hall = Hall(Store(SUMS))
            seen = []
            told = hall.tried(lambda held: (seen.append(held), held.come(0), "told")[2], keep=keep)
            self.assertEqual((told, len(hall), hall.done), ("told", int(stays), int(stays)), keep)
            self.assertIs(seen[0], hall)
        hall = Hall(Store(SUMS))
        self.assertEqual(hall.tried(look=lambda held: held.come(0)), 0)
        self.assertEqual((len(hall), hall.tried(len), hall.tried(lambda held: None)), (0, 0, None))
        self.assertEqual(hall.tried(lambda held: (held.come(0), held.keep())), (0, None))
        self.assertEqual(len(hall), 1)
        self.assertRaises(TypeError, hall.tried, len, True)
        before = told_all(hall)
        for look in (lambda held: (held.come(0), held.come(2)), lambda held: (held.keep(), held.come(0), held.go(99)), lambda held: held.come(0) + "x"):
            self.assertIsNotNone(raised(hall.tried, look))
            self.assertIsNotNone(raised(lambda: hall.tried(look, keep=True)))
            self.assertTrue(alike(told_all(hall), before))
        self.assertEqual(hall.tried(lambda held: held.tried(lambda inner: inner.come(0), keep=True)), 1)
        self.assertTrue(alike(told_all(hall), before))
        check_raises(self, NoTrial, None, hall.keep)

    def test_copies_stand_by_themselves(self):
        chance = random.Random(23)
        for text in texts(24, 30):
            hall, plain = self.some_hall(chance, text)
            before = told_all(hall)
            copy = hall.copy()
            self.assertTrue(alike(told_all(copy), before))
            self.assertTrue(copy == hall and copy is not hall and copy.store is hall.store)
            self.play(chance, copy, plain)
            self.assertTrue(alike(told_all(hall), before))
            copy = hall.copy()
            self.play(chance, hall, plain)
            self.assertTrue(alike(told_all(copy), before))
            with hall.trial():
                other = hall.copy()
                check_raises(self, NoTrial, None, other.keep)
                self.play(chance, other, plain)
                behind = told_all(other)
            self.assertTrue(alike(told_all(other), behind))


class Kinds(Case):
    def test_interface(self):
        methods = {"come": ["item"], "go": ["number"], "fall": ["house"], "rise": ["house"], "settle": [], "load": ["house"], "room": ["item"],
                   "shows_room": ["item", "value"], "undo": [], "redo": [], "trial": [], "keep": [], "tried": ["look", "keep"], "copy": [],
                   "__init__": ["store"], "__len__": [], "__contains__": None, "__eq__": None}
        for name, parameters in methods.items():
            self.assertIn(name, vars(Hall))
            if parameters is not None:
                self.assertEqual(list(inspect.signature(vars(Hall)[name]).parameters)[1:], parameters)
        self.assertEqual((Hall.__module__, hall_module.Hall), ("sumshelves.hall", Hall))
        store = Store(SUMS)
        hall = Hall(store=store)
        self.assertIs(hall.store, store)
        for name in ("store", "down", "asks", "came", "moved", "done"):
            self.assertTrue(hasattr(hall, name))
        self.assertEqual([hall.come(item=0), hall.load(house=0), hall.room(item=1), hall.shows_room(item=1, value=("room", 0))], [0, 1, ("room", 0), True])
        self.assertEqual([hall.fall(house=2), hall.rise(house=2), hall.go(number=0), hall.settle()], [(), None, None, 0])

    def test_wide(self):
        check_raises(self, Wide, 6, Hall, Store(SEVEN))
        self.assertEqual(len(Hall(Store(SEVEN).without_house(0))), 0)

    def test_equal_and_in(self):
        hall, other = Hall(Store(SUMS)), Hall(Store(SUMS))
        for deed in (("come", 0), ("come", 0), ("fall", 0), ("rise", 0), ("settle",), ("go", 1)):
            self.assertTrue(hall == other and not hall != other)
            done(hall, deed)
            self.assertFalse(hall == other or other == hall)
            done(other, deed)
        other.come(1), other.undo()
        self.assertTrue(hall == other)
        with other.trial():
            self.assertTrue(hall == other)
            other.come(1)
            self.assertFalse(hall == other)
        self.assertTrue(hall == other)
        # Both stand alike, but not by the same deeds.
        one, two = Hall(Store(SUMS)), Hall(Store(SUMS))
        one.fall(0), one.rise(0)
        self.assertEqual(one.asks, two.asks)
        self.assertTrue(one != two and Hall(Store(SUMS)) != Hall(Store(SUMS + "\nhouse s 1 a")))
        self.assertFalse(Hall(Store(SUMS)) == Hall(Store(SUMS.replace("q 1", "q 2"))))
        for value in any_values() + [journal(hall), hall.store, hall.asks, object()]:
            self.assertFalse(hall == value or value == hall)
            self.assertTrue(hall != value)
        hall = Hall(Store(ROOMY))
        for _ in range(5):
            hall.come(0)
        hall.go(2), hall.go(4)
        for value in any_values():
            self.assertIs(value in hall, type(value) is int and value in (0, 1, 3))
        self.assertIs(hall in hall, False)

    def test_errors_of_any_values(self):
        hall = Hall(Store(ODD))
        hall.come(0), hall.come(1), hall.fall(2)
        before = told_all(hall)
        for value in any_values():
            if not number_below(value, 3):
                for call in (hall.come, hall.room):
                    check_raises(self, BadItem, value, call, value)
                    check_raises(self, BadItem, value, lambda: call(item=value))
                check_raises(self, BadItem, value, hall.shows_room, value, None)
                for call in (hall.fall, hall.rise, hall.load):
                    check_raises(self, BadHouse, value, call, value)
                    check_raises(self, BadHouse, value, lambda: call(house=value))
            if not number_below(value, 2):
                check_raises(self, NoAsk, value, hall.go, value)
                check_raises(self, NoAsk, value, lambda: hall.go(number=value))
        check_raises(self, Out, 2, hall.come, 2)
        check_raises(self, Out, 2, hall.room, 2)
        check_raises(self, Out, 2, hall.shows_room, 2, ("room", 0))
        check_raises(self, Down, 2, hall.fall, 2)
        check_raises(self, Up, 0, hall.rise, 0)
        self.assertTrue(alike(told_all(hall), before))
        for _ in range(6):
            raised(hall.come, 0)
        eight = Hall(Store(ROOMY.replace("items a b", "items a b c")))
        for _ in range(8):
            eight.come(0)
        # An item that is out is told ahead of a full hall, a full hall ahead of a tree.
        check_raises(self, Out, 2, eight.come, 2)
        check_raises(self, Full, 8, eight.come, 1)
        check_raises(self, BadItem, 3, eight.come, 3)

    def test_shows_room(self):
        chance = random.Random(25)
        for text in list(texts(26, 12)) + [SUMS]:
            hall, plain = Hall(Store(text)), PlainHall(text)
            for _ in range(8):
                self.do_both(hall, plain, some_deed(chance, plain))
            for item in range(len(plain.plain.items)):
                if plain.families[item]:
                    check_shown(self, hall.shows_room, (item,), hall.room(item), lambda value: self.right_room(hall, plain, item, value), chance, 100)
        hall = Hall(Store(SUMS))
        hall.come(0), hall.come(1)
        tree = hall.room(0)[1]
        prices = ("prices", (ONE, ONE, NOUGHT))
        for value, right in ((("refused", tree), True), (("refused", prices), True), (("refused", ("prices", (ONE, NOUGHT, NOUGHT))), False),
                             (("refused", ("none", 0)), False), (("room", 0), False), (("room", 1), False), (prices, False)):
            self.assertIs(hall.shows_room(0, value), right, value)
        hall.go(1)
        for value, right in ((("room", 0), True), (("room", False), False), (("room", 1), False), (("room",), False), (["room", 0], False), (("refused", prices), False)):
            self.assertIs(hall.shows_room(0, value), right, value)

    def right_room(self, hall, plain, item, value):
        best = plain.room(item)
        if type(value) is not tuple or len(value) != 2 or type(value[0]) is not str:
            return False
        if best is not None:
            return value[0] == "room" and alike(value[1], best[0])
        asked = [ask[1] for ask in hall.asks] + [item]
        asks = tuple(asked.count(other) for other in range(len(plain.plain.items)))
        return value[0] == "refused" and self.is_tree(plain.families, asks, tuple(plain.left()), value[1])

    def test_nothing_that_was_told_is_changed(self):
        hall = Hall(Store(SUMS))
        hall.come(0)
        asks, down = hall.asks, hall.down
        hall.come(0), hall.fall(0)
        self.assertEqual((asks, down), (((0, 0, (0,)),), ()))
        for value, other in itertools.product(near_values(("room", 0)), (0, 1)):
            hall.shows_room(other, value)
        self.assertEqual(vars(hall.store), vars(Store(SUMS)))


if __name__ == "__main__":
    unittest.main()
