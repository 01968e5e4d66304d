"""Shares of asks on lots, and prices of houses: what they come to, by adding alone.

Families are a tuple with a family of lots for each item; what is told here of them holds of any such families.
"""

from sumshelves.checks import are_fractions, is_below, is_integer, is_rising, is_share, is_told
from sumshelves.fracs import common, is_less, reduced, sum_product, total, whole
from sumshelves.lots import least_lots


def families_of(store):
    """For each item of the store the family of its least lots."""
    return tuple([least_lots(store, item) for item in range(len(store.item_names))])


def strengths_of(store):
    """The strengths of the store's houses as fractions."""
    return tuple([whole(strength) for strength in store.strengths])


def fallen(strengths, lot):
    """These strengths with those of the lot's houses as 0."""
    return tuple([whole(0) if house in lot else strength for house, strength in enumerate(strengths)])


def out_asked(families, rates):
    """The first item with a rate above 0 and without lots; None if there is none."""
    for item, rate in enumerate(rates):
        if rate[0] > 0 and not families[item]:
            return item
    return None


def is_out_told(families, rates, value):
    """Whether this is ("out", item) with the first item that is asked for and has no lots."""
    return is_told(value, "out", 2) and is_integer(value[1]) and value[1] == out_asked(families, rates)


def is_row(families, value):
    """Whether this is (item, lot, share), of one of the item's lots."""
    if not isinstance(value, tuple) or len(value) != 3:
        return False
    item, lot, share = value
    return is_below(item, len(families)) and is_one_of(families[item], lot) and is_share(share)


def is_one_of(family, value):
    """Whether this is one of the family's lots."""
    many = max([house for lot in family for house in lot], default=0) + 1
    return is_rising(value, many) and value in family


def is_plan(families, value):
    """Whether this is a plan: rows of (item, lot, share), ascending, none of one item and lot twice."""
    if not isinstance(value, tuple) or not all([is_row(families, row) for row in value]):
        return False
    places = [row[:2] for row in value]
    return all([place < following for place, following in zip(places, places[1:])])


def loads_of(many, plan):
    """The tuple of what is asked of each of so many houses by the rows of a plan."""
    return tuple([total([row[2] for row in plan if house in row[1]]) for house in range(many)])


def sums_of_items(many, plan):
    """The tuple of what the shares of each of so many items come to."""
    return tuple([total([row[2] for row in plan if row[0] == item]) for item in range(many)])


def first_over(strengths, loads):
    """The first house that is loaded above its strength; None if there is none."""
    for house, strength in enumerate(strengths):
        if is_less(strength, loads[house]):
            return house
    return None


def is_bearing(families, strengths, rates, value):
    """Whether this is a plan that bears just these rates at these strengths."""
    if not is_plan(families, value) or sums_of_items(len(families), value) != rates:
        return False
    return first_over(strengths, loads_of(len(strengths), value)) is None


def priced(family, prices):
    """(price, lot) of the family's cheapest lot, the first one of these."""
    tops, low = common(prices)
    costs = [sum([tops[house] for house in lot]) for lot in family]
    least = min(costs)
    return reduced(least, low), family[costs.index(least)]


def cheapest(family, prices):
    """The least price of the family's lots."""
    return priced(family, prices)[0]


def cost_of(families, rates, prices):
    """What the rates cost: each rate times its item's cheapest lot; items with rates above 0 have lots."""
    asked = [item for item in range(len(rates)) if rates[item][0] > 0]
    costs = [cheapest(families[item], prices) for item in asked]
    return sum_product([rates[item] for item in asked], costs)


def worth_of(strengths, prices):
    """The sum of each strength times its house's price."""
    return sum_product(strengths, prices)


def is_barring(families, strengths, rates, value):
    """Whether these are prices at which the rates, of items that have lots, cost more than the strengths are worth."""
    if not are_fractions(value, len(strengths)) or out_asked(families, rates) is not None:
        return False
    return is_less(worth_of(strengths, value), cost_of(families, rates, value))
