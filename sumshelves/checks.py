"""What a number, a name, a lot and the like are, of any value, and the errors for what is none."""

from math import gcd

from sumshelves.errors import (
    BadContent, BadFraction, BadHouse, BadItem, BadLot, BadNumber, BadPrices, BadRates, NoRates, OtherItems, Wide,
)

LETTERS = "abcdefghijklmnopqrstuvwxyz"
LONGEST_NAME = 8
WIDEST = 6


def is_integer(value):
    """Whether this is an integer; a bool is none."""
    return isinstance(value, int) and not isinstance(value, bool)


def is_below(value, many):
    """Whether this is an integer from 0 on below many."""
    return is_integer(value) and 0 <= value < many


def is_name(value):
    """Whether this is a string of one to eight letters a to z."""
    if not isinstance(value, str) or not 1 <= len(value) <= LONGEST_NAME:
        return False
    return all([sign in LETTERS for sign in value])


def is_rising(value, many):
    """Whether this is an ascending tuple of integers below many: a lot, if there are so many houses."""
    if not isinstance(value, tuple) or not all([is_below(part, many) for part in value]):
        return False
    return all([part < following for part, following in zip(value, value[1:])])


def is_piece(value, many):
    """Whether this is a piece of some of so many items."""
    return is_rising(value, many) and len(value) > 0


def is_pieces(value, many):
    """Whether this is a tuple of one or two unlike pieces of so many items."""
    if not isinstance(value, tuple) or len(value) not in (1, 2):
        return False
    if not all([is_piece(part, many) for part in value]):
        return False
    return len(value) == 1 or value[0] != value[1]


def is_content(value, many):
    """Whether this is a string of a sign 0 or 1 for each of so many items."""
    if not isinstance(value, str) or len(value) != many:
        return False
    return all([sign in "01" for sign in value])


def is_family(value, many):
    """Whether this is a family of lots of so many houses."""
    if not isinstance(value, tuple) or not all([is_rising(lot, many) for lot in value]):
        return False
    places = [(len(lot), lot) for lot in value]
    return all([place < following for place, following in zip(places, places[1:])])


def is_signed(value):
    """Whether this is (top, low) in lowest terms, low from 1 on; top may be below 0."""
    if not isinstance(value, tuple) or len(value) != 2:
        return False
    top, low = value
    return is_integer(top) and is_integer(low) and low >= 1 and gcd(top, low) == 1


def is_fraction(value):
    """Whether this is (top, low) in lowest terms, top from 0 on."""
    return is_signed(value) and value[0] >= 0


def is_share(value):
    """Whether this is a fraction above 0."""
    return is_fraction(value) and value[0] > 0


def are_fractions(value, many):
    """Whether this is a tuple of so many fractions: rates of so many items, or prices of so many houses."""
    return isinstance(value, tuple) and len(value) == many and all([is_fraction(part) for part in value])


def is_signed_row(value, many):
    """Whether this is a tuple of so many fractions, tops perhaps below 0."""
    return isinstance(value, tuple) and len(value) == many and all([is_signed(part) for part in value])


def is_told(value, word, many):
    """Whether this is a tuple of so many parts with this word as the first one."""
    return isinstance(value, tuple) and len(value) == many and value[0] == word


def need_item(store, item):
    """BadItem unless this is the number of an item of the store."""
    if not is_below(item, len(store.item_names)):
        raise BadItem(item)


def need_house(store, house):
    """BadHouse unless this is the number of a house of the store."""
    if not is_below(house, len(store)):
        raise BadHouse(house)


def need_lot(store, lot):
    """BadLot unless this is a lot of houses of the store."""
    if not is_rising(lot, len(store)):
        raise BadLot(lot)


def need_content(store, content):
    """BadContent unless this is a content of the store's items."""
    if not is_content(content, len(store.item_names)):
        raise BadContent(content)


def need_fraction(value):
    """BadFraction unless this is a fraction."""
    if not is_fraction(value):
        raise BadFraction(value)


def need_rates(store, rates):
    """BadRates unless this is a tuple with a fraction for each item of the store."""
    if not are_fractions(rates, len(store.item_names)):
        raise BadRates(rates)


def need_some_rates(store, rates):
    """BadRates, or NoRates if all of these rates are 0."""
    need_rates(store, rates)
    if not any([rate[0] > 0 for rate in rates]):
        raise NoRates(rates)


def need_prices(store, prices):
    """BadPrices unless this is a tuple with a fraction for each house of the store."""
    if not are_fractions(prices, len(store)):
        raise BadPrices(prices)


def need_number(value, many):
    """BadNumber unless this is an integer from 0 on below many."""
    if not is_below(value, many):
        raise BadNumber(value)


def need_few_houses(store):
    """Wide(6) if the store has more than six houses."""
    if len(store) > WIDEST:
        raise Wide(WIDEST)


def need_same_items(store, other):
    """OtherItems(other) unless its items' names are those of the store, in the same sequence."""
    if store.item_names != other.item_names:
        raise OtherItems(other)
