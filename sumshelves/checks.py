"""What a number, a name, a lot and the like are, of any value, and the errors for what is none."""

from sumshelves.errors import BadContent, BadHouse, BadItem, BadLot

LETTERS = "abcdefghijklmnopqrstuvwxyz"
LONGEST_NAME = 8


def is_integer(value):
    """Whether this is an integer; a bool is none."""
    return isinstance(value, int) and not isinstance(value, bool)


def is_below(value, many):
    """Whether this is an integer from 0 on below many."""
    return is_integer(value) and 0 <= value < many


def is_name(value):
    """Whether this is a string of one to eight letters a to z."""
    if not isinstance(value, str) or not 1 <= len(value) <= LONGEST_NAME:
        return False
    return all([sign in LETTERS for sign in value])


def is_rising(value, many):
    """Whether this is an ascending tuple of integers below many: a lot, if there are so many houses."""
    if not isinstance(value, tuple) or not all([is_below(part, many) for part in value]):
        return False
    return all([part < following for part, following in zip(value, value[1:])])


def is_piece(value, many):
    """Whether this is a piece of some of so many items."""
    return is_rising(value, many) and len(value) > 0


def is_pieces(value, many):
    """Whether this is a tuple of one or two unlike pieces of so many items."""
    if not isinstance(value, tuple) or len(value) not in (1, 2):
        return False
    if not all([is_piece(part, many) for part in value]):
        return False
    return len(value) == 1 or value[0] != value[1]


def is_content(value, many):
    """Whether this is a string of a sign 0 or 1 for each of so many items."""
    if not isinstance(value, str) or len(value) != many:
        return False
    return all([sign in "01" for sign in value])


def is_family(value, many):
    """Whether this is a family of lots of so many houses."""
    if not isinstance(value, tuple) or not all([is_rising(lot, many) for lot in value]):
        return False
    places = [(len(lot), lot) for lot in value]
    return all([place < following for place, following in zip(places, places[1:])])


def need_item(store, item):
    """BadItem unless this is the number of an item of the store."""
    if not is_below(item, len(store.item_names)):
        raise BadItem(item)


def need_house(store, house):
    """BadHouse unless this is the number of a house of the store."""
    if not is_below(house, len(store)):
        raise BadHouse(house)


def need_lot(store, lot):
    """BadLot unless this is a lot of houses of the store."""
    if not is_rising(lot, len(store)):
        raise BadLot(lot)


def need_content(store, content):
    """BadContent unless this is a content of the store's items."""
    if not is_content(content, len(store.item_names)):
        raise BadContent(content)
