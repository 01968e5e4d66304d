"""The region of all rates that are borne: its sides and corners."""

from itertools import combinations

from sumshelves.checks import (
    are_fractions, is_below, is_fraction, is_integer, is_rising, is_share, is_told, need_few_houses, need_fraction,
    need_item, need_number, need_rates,
)
from sumshelves.errors import BadWeights, Unborne, Wide
from sumshelves.fracs import NOUGHT, ONE, common, divided, is_less, minus, reduced, scaled, total, whole
from sumshelves.linear import best
from sumshelves.reaching import borne_or_barred, most_weighed
from sumshelves.shapes import region_of, shortest, spread, weighed
from sumshelves.shares import cheapest, families_of, is_bearing, out_asked, strengths_of, sums_of_items, worth_of

MOST_LIVE = 3
MOST_WEIGHT = 999
MOST_NUMBER = 9999


def narrow_families(store):
    """The families of the store's items; Wide if too many items have lots, or if there are too many houses."""
    families = families_of(store)
    if len([family for family in families if family]) > MOST_LIVE:
        raise Wide(MOST_LIVE)
    need_few_houses(store)
    return families


def need_weights(store, weights):
    """BadWeights unless this is a tuple with an integer from 0 to 999 for each item, not all 0."""
    if not isinstance(weights, tuple) or len(weights) != len(store.item_names):
        raise BadWeights(weights)
    if not all([is_below(weight, MOST_WEIGHT + 1) for weight in weights]) or not any(weights):
        raise BadWeights(weights)


def sides(store):
    """The ascending tuple of all sides, (weights, number)."""
    return region_of(store, narrow_families(store))[0]


def corners(store):
    """The ascending tuple of all corners, each rates."""
    return region_of(store, narrow_families(store))[1]


def is_on(bound, rates):
    """Whether the rates are on this bound."""
    return weighed(bound[0], rates) == whole(bound[1])


def breaks(bound, rates):
    """Whether the rates break this bound."""
    return is_less(whole(bound[1]), weighed(bound[0], rates))


def first_broken(bounds, rates):
    """The number of the first bound that the rates break; None if they keep all."""
    for number, bound in enumerate(bounds):
        if breaks(bound, rates):
            return number
    return None


def edges(store):
    """The ascending tuple of (one, other) of all pairs of corners that are joined."""
    bounds, points = region_of(store, narrow_families(store))
    rows = [touched(bounds, rates) for rates in points]
    found = []
    for one, other in combinations(range(len(points)), 2):
        both = [bound for bound in rows[one] if bound in rows[other]]
        # The least face with both has just these two corners.
        if len([row for row in rows if all([bound in row for bound in both])]) == 2:
            found.append((one, other))
    return tuple(found)


def touched(bounds, rates):
    """What bounds the rates just there: numbers of bounds, and below 0 those of the items with the rate 0."""
    held = [number for number, bound in enumerate(bounds) if is_on(bound, rates)]
    return held + [-1 - item for item, rate in enumerate(rates) if rate[0] == 0]


def broken_side(store, rates):
    """The number of the first side that the rates break; None if they are borne."""
    families = narrow_families(store)
    need_rates(store, rates)
    return first_broken(region_of(store, families)[0], rates)


def why_side(store, weights, number):
    """What this bound is: ("broken", rates, plan), ("side", prices, numbers) or ("idle", prices)."""
    families = narrow_families(store)
    need_weights(store, weights)
    need_number(number, MOST_NUMBER + 1)
    worth, plan, prices = most_weighed(families, weights, store.strengths)
    if is_less(whole(number), worth):
        return "broken", sums_of_items(len(weights), plan), plan
    bounds, points = region_of(store, families)
    if (weights, number) in bounds:
        return "side", prices, corners_on((weights, number), points)
    return "idle", prices


def corners_on(bound, points):
    """The ascending tuple of the numbers of the corners that are on this bound."""
    return tuple([number for number, rates in enumerate(points) if is_on(bound, rates)])


def shows_why_side(store, weights, number, value):
    """Whether this value is such a result as why_side tells."""
    families = narrow_families(store)
    need_weights(store, weights)
    need_number(number, MOST_NUMBER + 1)
    bound = (weights, number)
    if is_told(value, "broken", 3):
        _, rates, plan = value
        if not are_fractions(rates, len(weights)) or not is_bearing(families, strengths_of(store), rates, plan):
            return False
        return breaks(bound, rates)
    if is_told(value, "side", 3):
        return is_side_told(store, families, bound, value)
    if not is_told(value, "idle", 2) or not covers(families, weights, value[1], len(store)):
        return False
    worth = worth_of(strengths_of(store), value[1])
    return not is_less(whole(number), worth) and bound not in region_of(store, families)[0]


def is_side_told(store, families, bound, value):
    """Whether this is ("side", prices, numbers) of this bound."""
    _, prices, numbers = value
    if not covers(families, bound[0], prices, len(store)):
        return False
    if worth_of(strengths_of(store), prices) != whole(bound[1]):
        return False
    bounds, points = region_of(store, families)
    return bound in bounds and is_rising(numbers, len(points)) and numbers == corners_on(bound, points)


def covers(families, weights, prices, many):
    """Whether these are prices of so many houses at which each item with lots costs at least its weight."""
    if not are_fractions(prices, many):
        return False
    with_lots = [item for item in range(len(families)) if families[item]]
    return not any([is_less(cheapest(families[item], prices), whole(weights[item])) for item in with_lots])


def direction(store, weights):
    """(worth, rates, prices): the greatest sum of weights times rates, rates that have it, prices that let no more."""
    families = narrow_families(store)
    need_weights(store, weights)
    worth, plan, prices = most_weighed(families, weights, store.strengths)
    return worth, sums_of_items(len(weights), plan), prices


def shows_direction(store, weights, value):
    """Whether this value is such a result as direction tells."""
    families = narrow_families(store)
    need_weights(store, weights)
    if not isinstance(value, tuple) or len(value) != 3:
        return False
    worth, rates, prices = value
    if not is_fraction(worth) or not are_fractions(rates, len(weights)):
        return False
    if not covers(families, weights, prices, len(store)) or worth_of(strengths_of(store), prices) != worth:
        return False
    return weighed(weights, rates) == worth and is_borne(store, families, rates)


def is_borne(store, families, rates):
    """Whether these rates are borne."""
    if out_asked(families, rates) is not None:
        return False
    return borne_or_barred(families, rates, strengths_of(store))[1] is None


def mixed(store, rates):
    """("mixed", mixture) of corners that comes to these rates, or ("beyond", number) of the first side they break."""
    families = narrow_families(store)
    need_rates(store, rates)
    bounds, points = region_of(store, families)
    number = first_broken(bounds, rates)
    if number is not None:
        return "beyond", number
    return "mixed", mixture_of(points, rates)


def mixture_of(points, rates):
    """A mixture of the fewest corners at most, one more than there are items, that comes to these rates."""
    wanted, low = common(rates)
    rows = [common(point) for point in points]
    columns = [tops + [unit] for tops, unit in rows]
    # A mixture that is kept below the rates comes to them just if all its sums are as great as can be.
    parts, _, by = best(columns, wanted + [low], [sum(column) for column in columns])
    shares = [(number, reduced(part * rows[number][1], by * low)) for number, part in enumerate(parts) if part > 0]
    return tuple(shares)


def shows_mixed(store, rates, value):
    """Whether this value is such a result as mixed tells."""
    families = narrow_families(store)
    need_rates(store, rates)
    bounds, points = region_of(store, families)
    if is_told(value, "beyond", 2):
        return is_integer(value[1]) and value[1] == first_broken(bounds, rates)
    if not is_told(value, "mixed", 2) or not is_mixture(points, value[1]) or len(value[1]) > len(rates) + 1:
        return False
    return mixture_rates(points, value[1], len(rates)) == rates


def mixture_rates(points, mixture, many):
    """The rates of a mixture of these corners."""
    rows = [scaled(points[number], share) for number, share in mixture]
    return tuple([total([row[item] for row in rows]) for item in range(many)])


def is_mixture(points, value):
    """Whether this is a mixture of these corners."""
    if not isinstance(value, tuple):
        return False
    for row in value:
        if not isinstance(row, tuple) or len(row) != 2 or not is_share(row[1]):
            return False
    return is_rising(tuple([row[0] for row in value]), len(points)) and total([row[1] for row in value]) == ONE


def greatest_beside(store, item, rates):
    """(rate, number): the greatest rate of this item beside those of the others, and the first side it comes to."""
    families = narrow_families(store)
    need_item(store, item)
    need_rates(store, rates)
    bounds = region_of(store, families)[0]
    others = rates[:item] + (NOUGHT,) + rates[item + 1:]
    if first_broken(bounds, others) is not None:
        return None
    found = None
    for number, bound in enumerate(bounds):
        weights, most = bound
        if weights[item] > 0:
            rate = divided(minus(whole(most), weighed(weights, others)), whole(weights[item]))
            if found is None or is_less(rate, found[0]):
                found = (rate, number)
    return found


def held_sides(store, item, rate):
    """The sides of the other items while this item has this rate."""
    families = narrow_families(store)
    need_item(store, item)
    need_fraction(rate)
    bounds = region_of(store, families)[0]
    many = len(families)
    number = first_broken(bounds, spread([item], [rate], NOUGHT, many))
    if number is not None:
        raise Unborne(number)
    rows = []
    for weights, most in bounds:
        left = [weight * rate[1] for weight in weights]
        rows.append((left[:item] + left[item + 1:], most * rate[1] - weights[item] * rate[0]))
    return shortest(rows, many - 1)
