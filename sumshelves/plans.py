"""Plans and prices: rates that are borne, and what shows of others that they are not."""

from sumshelves.checks import (
    are_fractions, is_fraction, is_integer, is_told, need_house, need_item, need_prices, need_rates, need_some_rates,
)
from sumshelves.errors import BadPlan, Out
from sumshelves.fracs import NOUGHT, ONE, scaled, whole
from sumshelves.lots import least_lots
from sumshelves.reaching import borne_or_barred, reach
from sumshelves.shares import (
    cost_of, families_of, first_over, is_barring, is_bearing, is_out_told, is_plan, loads_of, out_asked,
    priced, strengths_of, sums_of_items, worth_of,
)


def need_plan(families, plan):
    """BadPlan unless this is a plan."""
    if not is_plan(families, plan):
        raise BadPlan(plan)


def one_rate(store, item, rate):
    """Rates with this one for the item and 0 for all others."""
    return tuple([rate if other == item else NOUGHT for other in range(len(store.item_names))])


def cheapest_lot(store, item, prices):
    """(price, lot) of a least lot of the item with the least price."""
    need_item(store, item)
    need_prices(store, prices)
    lots = least_lots(store, item)
    if not lots:
        raise Out(item)
    return priced(lots, prices)


def house_loads(store, plan):
    """The tuple of the loads of all houses."""
    need_plan(families_of(store), plan)
    return loads_of(len(store), plan)


def cost_and_worth(store, rates, prices):
    """("cost", cost, worth), or ("out", item)."""
    need_rates(store, rates)
    need_prices(store, prices)
    families = families_of(store)
    item = out_asked(families, rates)
    if item is not None:
        return "out", item
    return "cost", cost_of(families, rates, prices), worth_of(strengths_of(store), prices)


def bears(store, rates, plan):
    """("bears",), or the first item with other shares, or the first house with too much load."""
    need_rates(store, rates)
    need_plan(families_of(store), plan)
    for item, come in enumerate(sums_of_items(len(rates), plan)):
        if come != rates[item]:
            return "short", item, come
    loads = loads_of(len(store), plan)
    house = first_over(strengths_of(store), loads)
    return ("bears",) if house is None else ("over", house, loads[house])


def borne(store, rates):
    """("plan", plan) that bears the rates, ("prices", prices) that bar them, or ("out", item)."""
    need_rates(store, rates)
    families = families_of(store)
    item = out_asked(families, rates)
    if item is not None:
        return "out", item
    plan, prices = borne_or_barred(families, rates, strengths_of(store))
    return ("prices", prices) if plan is None else ("plan", plan)


def shows_borne(store, rates, value):
    """Whether this value is such a result as borne tells."""
    need_rates(store, rates)
    families = families_of(store)
    if is_told(value, "plan", 2):
        return is_bearing(families, strengths_of(store), rates, value[1])
    return shows_unborne(families, strengths_of(store), rates, value)


def shows_unborne(families, strengths, rates, value):
    """Whether this is ("prices", prices) or ("out", item) that shows that the rates are not borne."""
    if is_told(value, "prices", 2):
        return is_barring(families, strengths, rates, value[1])
    return is_out_told(families, rates, value)


def greatest(store, item):
    """("greatest", rate, plan, prices) of this item alone, or ("out", item)."""
    need_item(store, item)
    families = families_of(store)
    if not families[item]:
        return "out", item
    return ("greatest",) + reach(families, one_rate(store, item, ONE), strengths_of(store))


def shows_greatest(store, item, value):
    """Whether this value is such a result as greatest tells."""
    need_item(store, item)
    families = families_of(store)
    alone = one_rate(store, item, ONE)
    if is_told(value, "greatest", 4):
        return is_reach(families, strengths_of(store), alone, value[1:])
    return is_out_told(families, alone, value)


def is_reach(families, strengths, rates, value):
    """Whether this is (times, plan, prices): a plan for so many times the rates, even prices that are worth times."""
    times, plan, prices = value
    if not is_fraction(times) or not is_bearing(families, strengths, scaled(rates, times), plan):
        return False
    return is_even(families, strengths, rates, prices, times)


def is_even(families, strengths, rates, prices, worth):
    """Whether these are prices at which the rates cost just 1, and which are worth so much."""
    if not are_fractions(prices, len(strengths)) or out_asked(families, rates) is not None:
        return False
    return cost_of(families, rates, prices) == ONE and worth_of(strengths, prices) == worth


def greatest_times(store, rates):
    """("times", times, plan, prices) of these rates, or ("out", item)."""
    need_some_rates(store, rates)
    families = families_of(store)
    item = out_asked(families, rates)
    if item is not None:
        return "out", item
    return ("times",) + reach(families, rates, strengths_of(store))


def shows_greatest_times(store, rates, value):
    """Whether this value is such a result as greatest_times tells."""
    need_some_rates(store, rates)
    families = families_of(store)
    if is_told(value, "times", 4):
        return is_reach(families, strengths_of(store), rates, value[1:])
    return is_out_told(families, rates, value)


def with_less(strengths, house, number):
    """These strengths with so much less at this house."""
    return strengths[:house] + (whole(strengths[house][0] - number),) + strengths[house + 1:]


def slack(store, rates, house):
    """("slack", number, plan, prices), or what borne tells of rates that are not borne."""
    need_rates(store, rates)
    need_house(store, house)
    told = borne(store, rates)
    if told[0] != "plan":
        return told
    families, strengths = families_of(store), strengths_of(store)
    plan = told[1]
    for number in range(1, store.strengths[house] + 1):
        less, prices = borne_or_barred(families, rates, with_less(strengths, house, number))
        if less is None:
            return "slack", number - 1, plan, prices
        plan = less
    return "slack", store.strengths[house], plan, None


def shows_slack(store, rates, house, value):
    """Whether this value is such a result as slack tells."""
    need_rates(store, rates)
    need_house(store, house)
    families, strengths = families_of(store), strengths_of(store)
    if not is_told(value, "slack", 4):
        return shows_unborne(families, strengths, rates, value)
    _, number, plan, prices = value
    most = store.strengths[house]
    if not is_integer(number) or not 0 <= number <= most:
        return False
    if not is_bearing(families, with_less(strengths, house, number), rates, plan):
        return False
    if number == most:
        return prices is None
    return is_barring(families, with_less(strengths, house, number + 1), rates, prices)
