"""Apart lots: whole asks of one item alone, where each house has one piece."""

from itertools import combinations

from sumshelves.checks import is_below, is_rising, is_told, need_item, need_lot
from sumshelves.errors import BadLot, BadTolls, Out, TwoPieces
from sumshelves.fracs import ONE
from sumshelves.lots import blocker, is_within, least_lots, losing_lots
from sumshelves.reaching import reach
from sumshelves.shares import is_one_of
from sumshelves.trees import placing_or_tree, wholes

MOST_TOLL = 9
KNOT_LOTS = 4
KNOT_SIZE = 3
KNOT_HOUSES = 6


def single_lots(store, item):
    """The item's least lots, where each house has one piece; TwoPieces, BadItem or Out otherwise."""
    for house in range(len(store)):
        if len(store.pieces[house]) > 1:
            raise TwoPieces(house)
    need_item(store, item)
    lots = least_lots(store, item)
    if not lots:
        raise Out(item)
    return lots


def need_tolls(store, tolls):
    """BadTolls unless this is a tuple with an integer from 0 to 9 for each house."""
    if not isinstance(tolls, tuple) or len(tolls) != len(store):
        raise BadTolls(tolls)
    if not all([is_below(toll, MOST_TOLL + 1) for toll in tolls]):
        raise BadTolls(tolls)


def sum_at(numbers, lot):
    """The sum of these numbers at the lot's houses."""
    return sum([numbers[house] for house in lot])


def weakest(family, numbers):
    """The first of the family's lots whose numbers together are least."""
    sums = [sum_at(numbers, lot) for lot in family]
    return family[sums.index(min(sums))]


def most_packed(family, numbers):
    """A packing of this family with as many lots as can be, no house in more of them than its number."""
    top, low = reach((family,), (ONE,), wholes(numbers))[0]
    many, packing = top // low + 1, None
    while packing is None:
        many -= 1
        packing, _ = placing_or_tree((family,), (many,), numbers)
    rows = {lot: often for _, lot, often in packing}
    return tuple([lot for lot in family for _ in range(rows.get(lot, 0))])


def is_packing(family, numbers, value):
    """Whether this is a packing of this family, no house in more of its lots than its number."""
    if not isinstance(value, tuple) or not all([is_one_of(family, lot) for lot in value]):
        return False
    places = [family.index(lot) for lot in value]
    if places != sorted(places):
        return False
    return all([len([lot for lot in value if house in lot]) <= number for house, number in enumerate(numbers)])


def is_packed(family, others, numbers, value):
    """Whether this is (a packing of as many of the family's lots as can be, one of the weakest of the others)."""
    if not isinstance(value, tuple) or len(value) != 2:
        return False
    packing, lot = value
    if not is_packing(family, numbers, packing) or not is_one_of(others, lot):
        return False
    least = sum_at(numbers, weakest(others, numbers))
    if sum_at(numbers, lot) != least:
        return False
    # No packing has more lots than these numbers, so most often nothing has to be packed anew.
    return len(packing) == least or len(packing) == len(most_packed(family, numbers))


def packed(store, item):
    """(lots, losing): a packing of most least lots, and a losing lot whose strengths together are least."""
    lots = single_lots(store, item)
    return most_packed(lots, store.strengths), weakest(losing_lots(store, item), store.strengths)


def shows_packed(store, item, value):
    """Whether this value is such a result as packed tells."""
    lots = single_lots(store, item)
    return is_packed(lots, losing_lots(store, item), store.strengths, value)


def losing_packed(store, item, tolls):
    """(lots, least): a packing of most losing lots, and a least lot whose tolls together are least."""
    lots = single_lots(store, item)
    need_tolls(store, tolls)
    return most_packed(losing_lots(store, item), tolls), weakest(lots, tolls)


def shows_losing_packed(store, item, tolls, value):
    """Whether this value is such a result as losing_packed tells."""
    lots = single_lots(store, item)
    need_tolls(store, tolls)
    return is_packed(losing_lots(store, item), lots, tolls, value)


def rests(family, out, free):
    """The family of what is left of these lots if the houses of out are gone and those of free are not counted."""
    kept = [lot for lot in family if not any([house in out for house in lot])]
    left = sorted({tuple([house for house in lot if house not in free]) for lot in kept})
    least = [rest for rest in left if not any([is_within(other, rest) for other in left if other != rest])]
    return tuple(sorted(least, key=len))


def are_apart(out, free):
    """Whether these two lots have no house in common."""
    return not any([house in free for house in out])


def left_lots(store, item, out, free):
    """The family of what is left of the item's least lots without out's houses, and with free's for nothing."""
    lots = single_lots(store, item)
    need_lot(store, out)
    need_lot(store, free)
    if not are_apart(out, free):
        raise BadLot(free)
    return rests(lots, out, free)


def is_knot(family):
    """Whether these are four lots of three of six houses, each two with one house in common."""
    if len(family) != KNOT_LOTS or any([len(lot) != KNOT_SIZE for lot in family]):
        return False
    lots = list(family)
    houses = sorted({house for lot in lots for house in lot})
    pairs = [[house for house in one if house in other] for one, other in combinations(lots, 2)]
    return len(houses) == KNOT_HOUSES and all([len(both) == 1 for both in pairs])


def is_counter(family):
    """Whether these are the lots that block a knot."""
    many = max([house for lot in family for house in lot], default=0) + 1
    # Each is the other's blocker, as none of what is left stands within another one.
    return is_knot(blocker(many, family))


def bar_of(store, lots, is_barred):
    """("bar", out, free) such that what is left of the lots is barred, or ("always",)."""
    houses = list(range(len(store)))
    # Houses in none of the lots that are left may be put out as well, so six stay.
    for stay in combinations(houses, 6):
        others = tuple([house for house in houses if house not in stay])
        for bits in range(1 << len(others)):
            free = tuple([house for at, house in enumerate(others) if bits & (1 << at)])
            out = tuple([house for house in others if house not in free])
            if is_barred(rests(lots, out, free)):
                return "bar", out, free
    return ("always",)


def shows_bar(store, lots, is_barred, value):
    """Whether this is ("always",) or ("bar", out, free) as bar_of tells it."""
    if is_told(value, "always", 1):
        return len(bar_of(store, lots, is_barred)) == 1
    if not is_told(value, "bar", 3):
        return False
    _, out, free = value
    if not is_rising(out, len(store)) or not is_rising(free, len(store)) or not are_apart(out, free):
        return False
    return is_barred(rests(lots, out, free))


def apart_always(store, item):
    """("always",) if for all strengths as many lots can be packed as the weakest losing lot is strong, or a bar."""
    return bar_of(store, single_lots(store, item), is_knot)


def shows_apart_always(store, item, value):
    """Whether this value is such a result as apart_always tells."""
    return shows_bar(store, single_lots(store, item), is_knot, value)


def losing_always(store, item):
    """("always",) if for all tolls as many losing lots can be packed as the cheapest least lot costs, or a bar."""
    return bar_of(store, single_lots(store, item), is_counter)


def shows_losing_always(store, item, value):
    """Whether this value is such a result as losing_always tells."""
    return shows_bar(store, single_lots(store, item), is_counter, value)
