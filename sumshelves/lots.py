"""Lots: of which houses together an item can be had, and without which it is lost."""

from sumshelves.checks import is_below, is_content, is_family, is_integer, need_content, need_item, need_lot
from sumshelves.errors import BadFamily, BadLot, BadNumber, Out
from sumshelves.stores import piece_value

MOST_MANY = 8


def bits_of(numbers):
    """These unlike numbers as one integer, a bit for each."""
    return sum([1 << number for number in numbers])


def is_within(lot, around):
    """Whether each house of the lot is in the lot around it."""
    return all([house in around for house in lot])


def all_contents(many):
    """All contents of so many items, ascending."""
    found = [""]
    for _ in range(many):
        found = [start + sign for start in found for sign in "01"]
    return found


def contents_with(store, item):
    """All contents with 1 at this item, ascending."""
    return [content for content in all_contents(len(store.item_names)) if content[item] == "1"]


def is_woken(pieces, content):
    """Whether some of these pieces has the value 1 in this content."""
    return "1" in [piece_value(piece, content) for piece in pieces]


def is_unseen(store, item, lot, content):
    """Whether this content has 1 at the item and wakes no house of the lot."""
    woken = awake(store, content)
    return content[item] == "1" and not any([house in woken for house in lot])


def sums_of(store, lot):
    """For each sum of pieces of the lot's houses, as bits of its items, an ascending tuple of spots that make it."""
    found = {0: ()}
    for house in lot:
        for number, piece in enumerate(store.pieces[house]):
            for start in list(found):
                total = start ^ bits_of(piece)
                if total not in found:
                    found[total] = found[start] + ((house, number),)
    return found


def had(store, item, lot):
    """("had", spots) whose sum is this item alone, or ("unseen", content) if the lot has none."""
    need_item(store, item)
    need_lot(store, lot)
    sums = sums_of(store, lot)
    if bits_of((item,)) in sums:
        return "had", sums[bits_of((item,))]
    unseen = [content for content in contents_with(store, item) if is_unseen(store, item, lot, content)]
    return "unseen", unseen[0]


def is_spot(store, lot, value):
    """Whether this is a spot of one of the lot's houses."""
    if not isinstance(value, tuple) or len(value) != 2:
        return False
    house, number = value
    return is_integer(house) and house in lot and is_below(number, len(store.pieces[house]))


def makes_item(store, item, lot, value):
    """Whether this is an ascending tuple of spots of the lot's houses whose sum is this item alone."""
    if not isinstance(value, tuple) or not all([is_spot(store, lot, spot) for spot in value]):
        return False
    if not all([spot < following for spot, following in zip(value, value[1:])]):
        return False
    total = 0
    for house, number in value:
        total = total ^ bits_of(store.pieces[house][number])
    return total == bits_of((item,))


def shows_had(store, item, lot, value):
    """Whether this value is such a result as had tells."""
    need_item(store, item)
    need_lot(store, lot)
    if not isinstance(value, tuple) or len(value) != 2:
        return False
    word, shown = value
    if word == "had":
        return makes_item(store, item, lot, shown)
    if word == "unseen":
        return is_content(shown, len(store.item_names)) and is_unseen(store, item, lot, shown)
    return False


def items_had(store, lot):
    """The ascending tuple of all items that are had of the lot."""
    need_lot(store, lot)
    sums = sums_of(store, lot)
    return tuple([item for item in range(len(store.item_names)) if bits_of((item,)) in sums])


def least_meeting(many, rows):
    """The family of the least lots of so many houses that have a house in common with each row, rows as bits."""
    meets = [all([some & row for row in rows]) for some in range(1 << many)]
    lots = []
    for bits in range(1 << many):
        lot = tuple([house for house in range(many) if bits & (1 << house)])
        # What a lot meets each lot around it meets, so it is enough to leave out one house.
        if meets[bits] and not any([meets[bits ^ (1 << house)] for house in lot]):
            lots.append(lot)
    return tuple(sorted(sorted(lots), key=len))


def least_lots(store, item):
    """The family of the least lots of which this item is had."""
    need_item(store, item)
    # An item is had of a lot just if no content with 1 at it is unseen there, so the lot
    # has to meet what each of these contents wakes.
    return least_meeting(len(store), [bits_of(awake(store, content)) for content in contents_with(store, item)])


def used(store, item):
    """The lot of all houses that stand in some least lot of this item."""
    return tuple(sorted({house for lot in least_lots(store, item) for house in lot}))


def losing_lots(store, item):
    """The family of the least lots that have a house in common with each least lot of this item."""
    lots = least_lots(store, item)
    if not lots:
        raise Out(item)
    return blocker(len(store), lots)


def awake(store, content):
    """The lot of all houses of which some piece has the value 1 in this content."""
    need_content(store, content)
    return tuple([house for house in range(len(store)) if is_woken(store.pieces[house], content)])


def need_losing_lot(store, item, lot):
    """BadItem, Out, or BadLot unless this is one of the item's losing lots."""
    lots = losing_lots(store, item)
    need_lot(store, lot)
    if lot not in lots:
        raise BadLot(lot)


def losing_content(store, item, lot):
    """A content with 1 at this item that wakes just the houses of this losing lot of it."""
    need_losing_lot(store, item, lot)
    return [content for content in contents_with(store, item) if awake(store, content) == lot][0]


def shows_losing_content(store, item, lot, value):
    """Whether this value is such a result as losing_content tells."""
    need_losing_lot(store, item, lot)
    return is_content(value, len(store.item_names)) and value[item] == "1" and awake(store, value) == lot


def blocker(many, family):
    """The family of the least lots of so many houses that have a house in common with each of the family's lots."""
    if not is_below(many, MOST_MANY + 1):
        raise BadNumber(many)
    if not is_family(family, many):
        raise BadFamily(family)
    return least_meeting(many, [bits_of(lot) for lot in family])
