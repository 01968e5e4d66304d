"""Stores: items on houses, as they are or as sums of items."""

from sumshelves.checks import is_below, is_name, is_piece, is_pieces, need_content, need_house, need_item
from sumshelves.errors import (
    BadName, BadPiece, BadPieces, BadStore, BadStrength, Bare, Called, Few, Full, Held, Many, NoPiece,
)

MOST_ITEMS = 4
FEWEST_HOUSES = 2
MOST_HOUSES = 8
MOST_PIECES = 2
FIGURES = "0123456789"


def read_items(line):
    """The names in a line of items; None if it is no such line."""
    words = line.split(" ")
    names = tuple(words[1:])
    if words[0] != "items" or not 1 <= len(names) <= MOST_ITEMS:
        return None
    if not all([is_name(name) for name in names]) or len(set(names)) < len(names):
        return None
    return names


def read_piece(word, item_names):
    """The numbers of the items that a word joins; None if it joins others than these."""
    parts = word.split("+")
    if not all([part in item_names for part in parts]):
        return None
    return tuple([item_names.index(part) for part in parts])


def read_house(line, item_names, house_names):
    """(name, strength, pieces) of a line of a house behind these houses; None if it cannot stand there."""
    words = line.split(" ")
    if words[0] != "house" or len(words) < 4 or len(house_names) == MOST_HOUSES:
        return None
    name, figure = words[1], words[2]
    if not is_name(name) or name in house_names:
        return None
    if len(figure) != 1 or figure not in FIGURES:
        return None
    pieces = tuple([read_piece(word, item_names) for word in words[3:]])
    if not is_pieces(pieces, len(item_names)):
        return None
    return name, int(figure), pieces


def read_store(text):
    """(names of items, rows of houses as read_house tells them) of a store's text."""
    if not isinstance(text, str):
        raise BadStore(0)
    lines = text.split("\n")
    item_names = read_items(lines[0])
    if item_names is None:
        raise BadStore(1)
    rows = []
    for number, line in enumerate(lines[1:], start=2):
        row = read_house(line, item_names, [earlier[0] for earlier in rows])
        if row is None:
            raise BadStore(number)
        rows.append(row)
    if len(rows) < FEWEST_HOUSES:
        raise BadStore(len(lines) + 1)
    return item_names, rows


def house_line(item_names, name, strength, pieces):
    """The line of a house in a store's text."""
    words = ["+".join([item_names[item] for item in piece]) for piece in pieces]
    return " ".join(["house", name, str(strength), *words])


class Store:
    """A store of items on houses, as its text tells it."""

    def __init__(self, text):
        item_names, rows = read_store(text)
        self.text = text
        self.item_names = item_names
        self.house_names = tuple([row[0] for row in rows])
        self.strengths = tuple([row[1] for row in rows])
        self.pieces = tuple([row[2] for row in rows])

    def __len__(self):
        return len(self.house_names)

    def __contains__(self, value):
        return isinstance(value, str) and value in self.house_names

    def __eq__(self, other):
        return isinstance(other, Store) and self.text == other.text

    def with_house(self, name, strength, pieces):
        """The store with this house behind the others."""
        if not is_name(name) or name in self.house_names:
            raise BadName(name)
        need_strength(strength)
        if not is_pieces(pieces, len(self.item_names)):
            raise BadPieces(pieces)
        if len(self) == MOST_HOUSES:
            raise Full(MOST_HOUSES)
        return Store(self.text + "\n" + house_line(self.item_names, name, strength, pieces))

    def without_house(self, house):
        """The store without this house."""
        need_house(self, house)
        if len(self) == FEWEST_HOUSES:
            raise Few(FEWEST_HOUSES)
        lines = self.text.split("\n")
        return Store("\n".join(lines[:house + 1] + lines[house + 2:]))

    def with_strength(self, house, strength):
        """The store in which this house has this strength."""
        need_house(self, house)
        need_strength(strength)
        return relined(self, house, strength, self.pieces[house])

    def with_piece(self, house, piece):
        """The store in which this house has this piece behind its own."""
        need_house(self, house)
        if not is_piece(piece, len(self.item_names)):
            raise BadPiece(piece)
        if piece in self.pieces[house]:
            raise Held(piece)
        if len(self.pieces[house]) == MOST_PIECES:
            raise Many(MOST_PIECES)
        return relined(self, house, self.strengths[house], self.pieces[house] + (piece,))

    def without_piece(self, house, number):
        """The store in which this house has its piece of this number no more."""
        need_house(self, house)
        pieces = self.pieces[house]
        if not is_below(number, len(pieces)):
            raise NoPiece(number)
        if len(pieces) == 1:
            raise Bare(house)
        return relined(self, house, self.strengths[house], pieces[:number] + pieces[number + 1:])


def relined(store, house, strength, pieces):
    """The store in which this house has this strength and these pieces."""
    lines = store.text.split("\n")
    lines[house + 1] = house_line(store.item_names, store.house_names[house], strength, pieces)
    return Store("\n".join(lines))


def need_strength(strength):
    """BadStrength unless this is an integer from 0 to 9."""
    if not is_below(strength, len(FIGURES)):
        raise BadStrength(strength)


def piece_value(piece, content):
    """The sign 0 or 1 that a piece has as its value in a content."""
    ones = [content[item] for item in piece].count("1")
    return str(ones & 1)


def answers(store, house, content):
    """The string of the values of a house's pieces in a content."""
    need_house(store, house)
    need_content(store, content)
    return "".join([piece_value(piece, content) for piece in store.pieces[house]])


def having(store, item):
    """The ascending tuple of the houses that have this item in some piece."""
    need_item(store, item)
    return tuple([house for house in range(len(store)) if any([item in piece for piece in store.pieces[house]])])


def side_by_side(one, other):
    """The store with the items and the houses of both, those of other behind those of one."""
    doubles = [name for name in other.item_names if name in one.item_names]
    doubles = doubles + [name for name in other.house_names if name in one.house_names]
    if doubles:
        raise Called(doubles[0])
    item_names = one.item_names + other.item_names
    if len(item_names) > MOST_ITEMS:
        raise Full(MOST_ITEMS)
    if len(one) + len(other) > MOST_HOUSES:
        raise Full(MOST_HOUSES)
    # Lines of houses tell items by name, so they can stand as they are.
    lines = one.text.split("\n")[1:] + other.text.split("\n")[1:]
    items_line = " ".join(["items", *item_names])
    return Store("\n".join([items_line, *lines]))
