"""A hall: whole asks come into a store, get seats, and go again."""

from sumshelves.checks import is_integer, is_told, need_few_houses, need_house, need_item
from sumshelves.errors import Down, Full, NoAsk, NothingToRedo, NothingToUndo, NoTrial, Out, Refused, Up
from sumshelves.seats import count_moves, first_lost, first_seats, least_moved, without
from sumshelves.shares import families_of
from sumshelves.trees import is_tree, placing_or_tree

MOST_ASKS = 8


class Trial:
    """A block behind which a hall is as it was ahead of it, but if it is kept and no error leaves it."""

    def __init__(self, hall):
        self.hall = hall
        self.kept = None

    def __enter__(self):
        hall = self.hall
        self.around = hall.block
        self.down = hall.down
        self.asks = hall.asks
        self.came = hall.came
        self.moved = hall.moved
        self.done = hall.done
        self.deeds = hall.deeds
        self.undone = hall.undone
        hall.block = self
        return hall

    def __exit__(self, kind, value, trace):
        hall = self.hall
        hall.block = self.around
        if kind is not None or self.kept is None:
            hall.down = self.down
            hall.asks = self.asks
            hall.came = self.came
            hall.moved = self.moved
            hall.done = self.done
            hall.deeds = self.deeds
            hall.undone = self.undone


class Hall:
    """A hall of a store, in which asks of items sit at least lots.

    Deeds are (line, state ahead of it) for each deed that stands, undone (line, state behind it) for each that was
    taken back and can be done again; a state is (down, asks, came, moved). All of these are tuples, and never changed.
    """

    def __init__(self, store):
        need_few_houses(store)
        self.store = store
        self.families = families_of(store)
        self.down = ()
        self.asks = ()
        self.came = 0
        self.moved = 0
        self.done = 0
        self.deeds = ()
        self.undone = ()
        self.block = None

    def __len__(self):
        return len(self.asks)

    def __contains__(self, value):
        return is_integer(value) and value in [ask[0] for ask in self.asks]

    def __eq__(self, other):
        if not isinstance(other, Hall) or self.store.text != other.store.text:
            return False
        return [deed[0] for deed in self.deeds] == [deed[0] for deed in other.deeds]

    def come(self, item):
        """Lets an ask of the item in, and returns its number."""
        self._need_lots(item)
        if len(self.asks) == MOST_ASKS:
            raise Full(MOST_ASKS)
        seats, moves, tree = self._seats_with(item)
        if seats is None:
            raise Refused(tree)
        number = self.came
        asks = seated(self.asks + ((number, item, None),), seats)
        self._do("come " + self.store.item_names[item], self.down, asks, number + 1, moves)
        return number

    def go(self, number):
        """Lets the ask of this number go."""
        if number not in self:
            raise NoAsk(number)
        asks = tuple([ask for ask in self.asks if ask[0] != number])
        self._do("go " + str(number), self.down, asks, self.came, 0)

    def fall(self, house):
        """Takes a house down, and returns the numbers of the asks that are lost."""
        need_house(self.store, house)
        if house in self.down:
            raise Down(house)
        down = tuple(sorted(self.down + (house,)))
        rows = self._rows()
        lost, seats = first_lost(rows, self._left(down))
        numbers = tuple([self.asks[at][0] for at in lost])
        asks, moves = seated(without(self.asks, lost), seats), count_moves(without(rows, lost), seats)
        self._do("fall " + self.store.house_names[house], down, asks, self.came, moves)
        return numbers

    def rise(self, house):
        """Takes a house up again."""
        need_house(self.store, house)
        if house not in self.down:
            raise Up(house)
        down = tuple([other for other in self.down if other != house])
        self._do("rise " + self.store.house_names[house], down, self.asks, self.came, 0)

    def settle(self):
        """Gives all asks the first seats of all, and returns how many moved."""
        rows = self._rows()
        seats = first_seats(rows, self._left(self.down), len(rows))
        moves = count_moves(rows, seats)
        self._do("settle", self.down, seated(self.asks, seats), self.came, moves)
        return moves

    def load(self, house):
        """In how many seats the house is."""
        need_house(self.store, house)
        return len([ask for ask in self.asks if house in ask[2]])

    def room(self, item):
        """("room", many) with how many would move if an ask of the item came, or ("refused", tree)."""
        self._need_lots(item)
        seats, moves, tree = self._seats_with(item)
        return ("refused", tree) if seats is None else ("room", moves)

    def shows_room(self, item, value):
        """Whether this value is such a result as room tells."""
        self._need_lots(item)
        if is_told(value, "refused", 2):
            return is_tree(self.families, self._asked_with(item), self._left(self.down), value[1])
        if not is_told(value, "room", 2) or not is_integer(value[1]):
            return False
        return value == self.room(item)

    def undo(self):
        """Takes the last deed back that stands."""
        if not self.deeds:
            raise NothingToUndo(None)
        line, state = self.deeds[-1]
        self.undone = self.undone + ((line, self._state()),)
        self.deeds = self.deeds[:-1]
        self._stand(state)

    def redo(self):
        """Does the deed again that was taken back last."""
        if not self.undone:
            raise NothingToRedo(None)
        line, state = self.undone[-1]
        self.deeds = self.deeds + ((line, self._state()),)
        self.undone = self.undone[:-1]
        self._stand(state)

    def trial(self):
        """A block, for with, behind which the hall is as it was, but if it is kept."""
        return Trial(self)

    def keep(self):
        """Keeps what is done in the innermost block."""
        block = self.block
        if block is None:
            raise NoTrial(None)
        block.kept = True

    def tried(self, look, *, keep=False):
        """What look returns of the hall, called with it in a block, kept if keep is True."""
        with self.trial() as held:
            if keep is True:
                self.keep()
            return look(held)

    def copy(self):
        """A hall alike by itself, outside of all blocks."""
        other = Hall(self.store)
        other.deeds = self.deeds
        other.undone = self.undone
        other._stand(self._state())
        return other

    def _state(self):
        """What a deed may change, but for the deeds themselves."""
        return self.down, self.asks, self.came, self.moved

    def _stand(self, state):
        """Lets the hall be as this state tells."""
        self.down, self.asks, self.came, self.moved = state
        self.done = len(self.deeds)

    def _do(self, line, down, asks, came, moves):
        """Does a deed: from now on all is as told, and so many more moved."""
        self.deeds = self.deeds + ((line, self._state()),)
        self.undone = ()
        self._stand((down, asks, came, self.moved + moves))

    def _need_lots(self, item):
        """BadItem, or Out if the item has no lots."""
        need_item(self.store, item)
        if not self.families[item]:
            raise Out(item)

    def _left(self, down):
        """The strengths of the houses, 0 of those that are down."""
        return tuple([0 if house in down else strength for house, strength in enumerate(self.store.strengths)])

    def _rows(self):
        """(seat, lots at which it may sit, as Python sorts them) for each ask that stands."""
        return [(seat, sorted(self.families[item])) for _, item, seat in self.asks]

    def _asked_with(self, item):
        """How many asks of each item stand if one of this item comes."""
        asked = [ask[1] for ask in self.asks] + [item]
        return tuple([asked.count(other) for other in range(len(self.families))])

    def _seats_with(self, item):
        """(seats, moves, None) of all that stand and an ask of this item, or (None, None, tree)."""
        rows = self._rows() + [(None, sorted(self.families[item]))]
        left = self._left(self.down)
        seats = first_seats(rows, left, 0)
        if seats is None:
            # Whether there are seats at all is found sooner by fractions than by going through all of them.
            _, tree = placing_or_tree(self.families, self._asked_with(item), left)
            if tree is not None:
                return None, None, tree
            seats = least_moved(rows, left)
        return seats, count_moves(rows, seats), None


def seated(asks, seats):
    """The asks with these seats."""
    return tuple([(number, item, seat) for (number, item, _), seat in zip(asks, seats)])
