"""One store beside another one: for all strengths, and as they stand."""

from sumshelves.checks import (
    are_fractions, is_below, is_content, is_pieces, is_rising, is_told, need_house, need_same_items,
)
from sumshelves.errors import BadPieces, Held, OtherShape, OtherSpan, Wide
from sumshelves.lots import bits_of, had, is_unseen, is_within
from sumshelves.plans import borne, shows_unborne
from sumshelves.region import corners, is_borne, narrow_families
from sumshelves.shares import families_of, is_bearing, strengths_of
from sumshelves.stores import MOST_HOUSES, MOST_PIECES, Store, relined


def need_same_shape(one, other):
    """OtherShape(other) unless items and houses of both have the same names in the same sequence."""
    if one.item_names != other.item_names or one.house_names != other.house_names:
        raise OtherShape(other)


def lot_within(family, around):
    """The number of the first of the family's lots that is within this one; None if there is none."""
    for number, lot in enumerate(family):
        if is_within(lot, around):
            return number
    return None


def rows_within(families, others):
    """(rows, None): for each lot of the families the number of one of the others within it; or (None, (item, lot))."""
    rows = []
    for item, family in enumerate(families):
        row = [lot_within(others[item], lot) for lot in family]
        if None in row:
            return None, (item, family[row.index(None)])
        rows.append(tuple(row))
    return tuple(rows), None


def bears_all(one, other):
    """("all", rows) if other bears for all strengths what one bears, or ("parts", item, lot, content)."""
    need_same_shape(one, other)
    rows, spot = rows_within(families_of(one), families_of(other))
    if spot is None:
        return "all", rows
    return ("parts", *spot, had(other, spot[0], spot[1])[1])


def shows_bears_all(one, other, value):
    """Whether this value is such a result as bears_all tells."""
    need_same_shape(one, other)
    if is_told(value, "all", 2):
        return are_rows_within(families_of(one), families_of(other), value[1])
    return is_told(value, "parts", 4) and are_parted(one, other, value[1:])


def are_rows_within(families, others, value):
    """Whether these are rows as rows_within tells them."""
    if not isinstance(value, tuple) or len(value) != len(families):
        return False
    for family, among, row in zip(families, others, value):
        if not isinstance(row, tuple) or len(row) != len(family):
            return False
        if not all([is_below(number, len(among)) for number in row]):
            return False
        if not all([is_within(among[number], lot) for number, lot in zip(row, family)]):
            return False
    return True


def are_parted(one, other, value):
    """Whether this is (item, lot, content): of the lot one has the item, other not, as the content shows."""
    item, lot, content = value
    if not is_below(item, len(one.item_names)) or not is_rising(lot, len(one)):
        return False
    if not is_content(content, len(one.item_names)) or not is_unseen(other, item, lot, content):
        return False
    return had(one, item, lot)[0] == "had"


def same_lots(one, other):
    """("same",) if each item is had of the same lots in both, or ("parts", number, item, lot, content)."""
    need_same_shape(one, other)
    told = bears_all(one, other)
    if told[0] == "parts":
        return ("parts", 0) + told[1:]
    told = bears_all(other, one)
    return ("parts", 1) + told[1:] if told[0] == "parts" else ("same",)


def shows_same_lots(one, other, value):
    """Whether this value is such a result as same_lots tells."""
    need_same_shape(one, other)
    if is_told(value, "same", 1):
        return families_of(one) == families_of(other)
    if not is_told(value, "parts", 5) or not is_below(value[1], 2):
        return False
    if value[1] == 0:
        return are_parted(one, other, value[2:])
    return are_parted(other, one, value[2:])


def needless_pieces(store):
    """The ascending tuple of all (house, number) of pieces without which each item has the same least lots."""
    families = families_of(store)
    found = []
    for house, pieces in enumerate(store.pieces):
        for number in range(len(pieces)):
            if len(pieces) == MOST_PIECES and families_of(store.without_piece(house, number)) == families:
                found.append((house, number))
    return tuple(found)


def all_sums(pieces):
    """All sums of these pieces, each once, as bits of their items, ascending."""
    found = [0]
    for piece in pieces:
        found = found + [start ^ bits_of(piece) for start in found]
    return sorted(set(found))


def in_other_words(store, house, pieces):
    """The store with these pieces in the place of the house's own ones, of which the same sums can be made."""
    need_house(store, house)
    if not is_pieces(pieces, len(store.item_names)):
        raise BadPieces(pieces)
    if all_sums(pieces) != all_sums(store.pieces[house]):
        raise OtherSpan(pieces)
    return relined(store, house, store.strengths[house], pieces)


def joined(one, other):
    """The store of the same items with other's houses behind those of one."""
    need_same_items(one, other)
    for name in other.house_names:
        if name in one.house_names:
            raise Held(name)
    if len(one) + len(other) > MOST_HOUSES:
        raise Wide(MOST_HOUSES)
    return Store("\n".join([one.text] + other.text.split("\n")[1:]))


def need_regions(one, other):
    """OtherShape, or Wide if one, or other, has too many items with lots or too many houses."""
    need_same_shape(one, other)
    narrow_families(one)
    narrow_families(other)


def within_region(one, other):
    """("within", rows) with plans of other for the corners of one, or ("parts", rates, told)."""
    need_regions(one, other)
    rows = []
    for rates in corners(one):
        told = borne(other, rates)
        if told[0] != "plan":
            return "parts", rates, told
        rows.append(told[1])
    return "within", tuple(rows)


def shows_within_region(one, other, value):
    """Whether this value is such a result as within_region tells."""
    need_regions(one, other)
    families, strengths = families_of(other), strengths_of(other)
    if is_told(value, "within", 2):
        points, rows = corners(one), value[1]
        if not isinstance(rows, tuple) or len(rows) != len(points):
            return False
        return all([is_bearing(families, strengths, rates, plan) for rates, plan in zip(points, rows)])
    if not is_told(value, "parts", 3):
        return False
    _, rates, told = value
    if not are_fractions(rates, len(families)) or not is_borne(one, families_of(one), rates):
        return False
    return shows_unborne(families, strengths, rates, told)
