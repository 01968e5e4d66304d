"""Mending: how fast a fallen house is made anew beside the asks."""

from sumshelves.checks import are_fractions, is_fraction, need_house, need_rates
from sumshelves.errors import NoHelp, NotBorne
from sumshelves.fracs import NOUGHT, ONE, divided, minus, plus
from sumshelves.lots import all_contents, awake, bits_of, least_meeting
from sumshelves.plans import borne
from sumshelves.reaching import reach
from sumshelves.shares import (
    cheapest, cost_of, fallen, families_of, first_over, is_bearing, is_plan, loads_of, strengths_of, sums_of_items,
    worth_of,
)


def helping_lots(store, house):
    """The family of the least lots of other houses on which each piece of the house is a sum of pieces."""
    need_house(store, house)
    woken = [awake(store, content) for content in all_contents(len(store.item_names))]
    # A lot helps just if each content that wakes the house wakes a house of the lot.
    rows = [bits_of([other for other in lot if other != house]) for lot in woken if house in lot]
    return least_meeting(len(store), rows)


def need_mending(store, house, rates):
    """The helping lots of a house behind whose fall the rates are borne; BadHouse, BadRates, NoHelp or NotBorne."""
    need_house(store, house)
    need_rates(store, rates)
    helping = helping_lots(store, house)
    if not helping:
        raise NoHelp(house)
    told = borne(store.with_strength(house, 0), rates)
    if told[0] != "plan":
        raise NotBorne(told)
    return helping


def greatest_mending(store, house, rates):
    """(speed, plan, pages, prices): the greatest speed beside the rates, and what shows that it is."""
    helping = need_mending(store, house, rates)
    # Pages are asked for as if they were one item more, with the helping lots as its lots.
    families = families_of(store) + (helping,)
    strengths = fallen(strengths_of(store), (house,))
    alone = tuple([NOUGHT for _ in rates])
    speed, rows, prices = reach(families, alone + (ONE,), strengths)
    further = None if rates == alone else prices
    # Each row of prices lets less speed than the one ahead of it, down to what is borne with the rates.
    while further is not None:
        prices = per_page(helping, further)
        speed = minus(worth_of(strengths, prices), cost_of(families, rates, prices))
        _, rows, further = reach(families, rates + (speed,), strengths, True)
    plan = tuple([row for row in rows if row[0] < len(rates)])
    pages = tuple([row[1:] for row in rows if row[0] == len(rates)])
    return speed, plan, pages, prices


def per_page(helping, prices):
    """These prices so many times that the cheapest helping lot costs 1."""
    least = cheapest(helping, prices)
    return tuple([divided(price, least) for price in prices])


def shows_greatest_mending(store, house, rates, value):
    """Whether this value is such a result as greatest_mending tells."""
    helping = need_mending(store, house, rates)
    if not isinstance(value, tuple) or len(value) != 4:
        return False
    speed, plan, pages, prices = value
    families, strengths = families_of(store), fallen(strengths_of(store), (house,))
    if not is_fraction(speed) or not is_bearing(families, strengths, rates, plan):
        return False
    if not isinstance(pages, tuple) or not all([isinstance(page, tuple) for page in pages]):
        return False
    rows = tuple([(0, *page) for page in pages])
    if not is_plan((helping,), rows) or sums_of_items(1, rows) != (speed,):
        return False
    loads = [plus(one, other) for one, other in zip(loads_of(len(store), plan), loads_of(len(store), rows))]
    if first_over(strengths, loads) is not None:
        return False
    if not are_fractions(prices, len(store)) or cheapest(helping, prices) != ONE:
        return False
    return plus(cost_of(families, rates, prices), speed) == worth_of(strengths, prices)
