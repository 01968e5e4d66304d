"""A hall, worked out plainly beside the program: all seatings are gone through, and undoing does all anew."""

import itertools

from tests.asking import families_of
from tests.plain import Plain


class Refusal(Exception):
    """What a plain hall tells of a deed that cannot be: the error's name, and its value where it is not any tree."""

    def __init__(self, name, value=None):
        Exception.__init__(self, name, value)
        self.name = name
        self.value = value


def seatings(rows, left):
    """All seatings of these rows of lots, as Python sorts them."""
    if not rows:
        return [()]
    found = []
    for lot in sorted(rows[0]):
        if all(left[house] for house in lot):
            rest = [number - (house in lot) for house, number in enumerate(left)]
            found += [(lot,) + others for others in seatings(rows[1:], rest)]
    return found


def moves_of(asks, seats):
    return sum(seat is not None and seat != other for (_, _, seat), other in zip(asks, seats))


def best_seats(rows, asks, left):
    """(moves, seats): the first seating with the fewest moves; None if there is none."""
    return min(((moves_of(asks, seats), seats) for seats in seatings(rows, left)), default=None)


class PlainHall:
    def __init__(self, text):
        self.text = text
        self.plain = Plain(text)
        self.families = families_of(text)
        self.deeds, self.undone = [], []
        self.clear()

    def clear(self):
        self.down, self.asks, self.came, self.moved = (), (), 0, 0

    def left(self, down=None):
        down = self.down if down is None else down
        return [0 if house in down else strength for house, strength in enumerate(self.plain.strengths)]

    def rows(self, asks):
        return [self.families[item] for _, item, _ in asks]

    def state(self):
        return self.down, self.asks, self.came, self.moved, len(self.deeds)

    def room(self, item):
        """How many move if an ask of the item comes, and how all sit then; None if there is no seating."""
        if not self.families[item]:
            raise Refusal("Out", item)
        asks = self.asks + ((self.came, item, None),)
        return best_seats(self.rows(asks), asks, self.left())

    def come(self, item):
        if not self.families[item]:
            raise Refusal("Out", item)
        if len(self.asks) == 8:
            raise Refusal("Full", 8)
        told = self.room(item)
        if told is None:
            raise Refusal("Refused")
        asks = self.asks + ((self.came, item, None),)
        self.asks = tuple((number, kind, seat) for (number, kind, _), seat in zip(asks, told[1]))
        self.moved += told[0]
        self.came += 1
        return self.came - 1

    def go(self, number):
        if number not in [ask[0] for ask in self.asks]:
            raise Refusal("NoAsk", number)
        self.asks = tuple(ask for ask in self.asks if ask[0] != number)

    def fall(self, house):
        if house in self.down:
            raise Refusal("Down", house)
        down = tuple(sorted(self.down + (house,)))
        for many in range(len(self.asks) + 1):
            found = []
            for lost in itertools.combinations(self.asks, many):
                asks = tuple(ask for ask in self.asks if ask not in lost)
                told = best_seats(self.rows(asks), asks, self.left(down))
                if told is not None:
                    found.append((told[0], tuple(ask[0] for ask in lost), told[1], asks))
            if found:
                moves, numbers, seats, asks = min(found)
                self.down = down
                self.asks = tuple((number, item, seat) for (number, item, _), seat in zip(asks, seats))
                self.moved += moves
                return numbers

    def rise(self, house):
        if house not in self.down:
            raise Refusal("Up", house)
        self.down = tuple(other for other in self.down if other != house)

    def settle(self):
        seats = min(seatings(self.rows(self.asks), self.left()))
        moves = moves_of(self.asks, seats)
        self.asks = tuple((number, item, seat) for (number, item, _), seat in zip(self.asks, seats))
        self.moved += moves
        return moves

    def do(self, deed):
        """Does a deed, (word, number) or (word,), and keeps it."""
        told = getattr(self, deed[0])(*deed[1:])
        self.deeds.append(deed)
        self.undone = []
        return told

    def redone(self, deeds):
        self.clear()
        for deed in deeds:
            getattr(self, deed[0])(*deed[1:])
        self.deeds = deeds

    def undo(self):
        if not self.deeds:
            raise Refusal("NothingToUndo")
        self.undone.append(self.deeds[-1])
        self.redone(self.deeds[:-1])

    def redo(self):
        if not self.undone:
            raise Refusal("NothingToRedo")
        self.redone(self.deeds + [self.undone.pop()])

    def journal(self):
        lines = []
        for word, *numbers in self.deeds:
            names = {"come": self.plain.items, "fall": self.plain.houses, "rise": self.plain.houses}.get(word)
            lines.append(" ".join([word] + [names[number] if names else str(number) for number in numbers]))
        return "\n".join([self.text, "hall"] + lines)


def some_deed(chance, plain, words=None):
    """Some deed for this hall; it may be refused."""
    word = chance.choice(words or ["come"] * 7 + ["go"] * 2 + ["fall", "rise", "settle", "undo", "redo"])
    if word == "come":
        return word, chance.randrange(len(plain.plain.items))
    if word == "go":
        return word, chance.randint(0, max(0, plain.came))
    if word in ("fall", "rise"):
        return word, chance.randrange(len(plain.plain.houses))
    return (word,)


def done(hall, deed):
    """What the hall tells of a deed."""
    return getattr(hall, deed[0])(*deed[1:])
