"""What strength is worth: how the reach of rates goes up with the strength of one house."""

from sumshelves.checks import are_fractions, is_told, need_house, need_some_rates
from sumshelves.errors import Same
from sumshelves.fracs import NOUGHT, ONE, divided, is_less, minus, plus, scaled, total
from sumshelves.plans import is_even
from sumshelves.reaching import reach
from sumshelves.shares import families_of, is_bearing, is_out_told, out_asked, strengths_of, worth_of


def at_strength(strengths, house, number):
    """These strengths with this fraction at the house."""
    return strengths[:house] + (number,) + strengths[house + 1:]


def reach_at(families, rates, strengths, house, number):
    """(times, plan, prices) of the rates with this fraction as the house's strength."""
    return reach(families, rates, at_strength(strengths, house, number))


def base_of(strengths, house, prices):
    """What these prices are worth with the house's strength 0."""
    return worth_of(at_strength(strengths, house, NOUGHT), prices)


def worth_at(strengths, house, prices, number):
    """What these prices are worth with this fraction as the house's strength."""
    return worth_of(at_strength(strengths, house, number), prices)


def stays_alone(families, rates, house):
    """Whether each item with a rate above 0 is had of this house alone."""
    return all([(house,) in family for family, rate in zip(families, rates) if rate[0] > 0])


def last_prices(families, rates, strengths, house):
    """Even prices whose worth is the reach from some strength of the house on."""
    asked = [item for item in range(len(rates)) if rates[item][0] > 0]
    if stays_alone(families, rates, house):
        # The house's price cannot be less than 1 by the sum of the rates; no lot may cost less than the house.
        lots = sorted({lot for item in asked for lot in families[item] if lot != (house,)})
        prices = reach((lots,), (ONE,), strengths)[2] if lots else scaled(strengths, NOUGHT)
        return scaled(at_strength(prices, house, ONE), divided(ONE, total(rates)))
    # For nothing the house answers all asks that need no other one, and its part of all others.
    left = [NOUGHT if (house,) in families[item] else rate for item, rate in enumerate(rates)]
    rests = [[tuple([other for other in lot if other != house]) for lot in family] for family in families]
    return at_strength(reach(rests, left, strengths)[2], house, NOUGHT)


def bends(families, rates, strengths, house, left, right):
    """The ascending list of (x, prices from there on) where the reach bends between these two rows of prices.

    The reach is the worth of left at some strength of the house, and that of right at some greater one.
    """
    if left[house] == right[house]:
        return []
    ahead = minus(base_of(strengths, house, right), base_of(strengths, house, left))
    number = divided(ahead, minus(left[house], right[house]))
    times, _, middle = reach_at(families, rates, strengths, house, number)
    if times == worth_at(strengths, house, left, number):
        return [(number, right)]
    first = bends(families, rates, strengths, house, left, middle)
    return first + bends(families, rates, strengths, house, middle, right)


def line_of(families, rates, strengths, house):
    """The list of (x, prices from there on): x = 0, and each x at which the reach bends."""
    first = reach_at(families, rates, strengths, house, NOUGHT)[2]
    last = last_prices(families, rates, strengths, house)
    rows = bends(families, rates, strengths, house, first, last)
    if rows and rows[0][0] == NOUGHT:
        return rows
    return [(NOUGHT, first)] + rows


def worth_line(store, rates, house):
    """("line", corners, plans, prices) of the reach by this house's strength, or ("out", item)."""
    need_some_rates(store, rates)
    need_house(store, house)
    families, strengths = families_of(store), strengths_of(store)
    item = out_asked(families, rates)
    if item is not None:
        return "out", item
    rows = line_of(families, rates, strengths, house)
    told = [reach_at(families, rates, strengths, house, number) for number, _ in rows]
    corners = tuple([(row[0], row_told[0]) for row, row_told in zip(rows, told)])
    return "line", corners, tuple([row[1] for row in told]), tuple([row[1] for row in rows])


def shows_worth_line(store, rates, house, value):
    """Whether this value is such a result as worth_line tells."""
    need_some_rates(store, rates)
    need_house(store, house)
    families, strengths = families_of(store), strengths_of(store)
    if not is_told(value, "line", 4):
        return is_out_told(families, rates, value)
    _, corners, plans, prices = value
    if not are_corners(corners) or not isinstance(plans, tuple) or not isinstance(prices, tuple):
        return False
    if len(plans) != len(corners) or len(prices) != len(corners):
        return False
    for corner, plan in zip(corners, plans):
        held = at_strength(strengths, house, corner[0])
        if not is_bearing(families, held, scaled(rates, corner[1]), plan):
            return False
    for corner, row in zip(corners, prices):
        if not is_even(families, at_strength(strengths, house, corner[0]), rates, row, corner[1]):
            return False
    return is_line(families, rates, strengths, house, corners, prices)


def are_corners(value):
    """Whether this is a tuple of (x, reach), fractions, x from 0 on and ascending."""
    if not isinstance(value, tuple) or not all([are_fractions(corner, 2) for corner in value]):
        return False
    if not value or value[0][0] != NOUGHT:
        return False
    return all([is_less(corner[0], following[0]) for corner, following in zip(value, value[1:])])


def is_line(families, rates, strengths, house, corners, prices):
    """Whether these even prices go straight from each corner to the next one, and bend at each but the first."""
    for row, following in zip(prices, corners[1:]):
        if worth_at(strengths, house, row, following[0]) != following[1]:
            return False
    slopes = [row[house] for row in prices]
    if not all([is_less(slope, steeper) for steeper, slope in zip(slopes, slopes[1:])]):
        return False
    if slopes[-1] == NOUGHT:
        return True
    return stays_alone(families, rates, house) and slopes[-1] == divided(ONE, total(rates))


def house_worth(store, rates, house):
    """("worth", less, more): how steeply the reach goes up ahead of the house's strength, and behind it."""
    need_some_rates(store, rates)
    need_house(store, house)
    families, strengths = families_of(store), strengths_of(store)
    item = out_asked(families, rates)
    if item is not None:
        return "out", item
    less, more = None, None
    for number, prices in line_of(families, rates, strengths, house):
        if is_less(number, strengths[house]):
            less = prices[house]
        if not is_less(strengths[house], number):
            more = prices[house]
    return "worth", less, more


def two_worths(store, rates, house, beside):
    """("worths", mine, its, both): what one unit more adds at house, at beside, and at both."""
    need_some_rates(store, rates)
    need_house(store, house)
    need_house(store, beside)
    if house == beside:
        raise Same(house)
    families, strengths = families_of(store), strengths_of(store)
    item = out_asked(families, rates)
    if item is not None:
        return "out", item
    mine = at_strength(strengths, house, plus(strengths[house], ONE))
    its = at_strength(strengths, beside, plus(strengths[beside], ONE))
    both = at_strength(mine, beside, its[beside])
    now = reach(families, rates, strengths)[0]
    return ("worths",) + tuple([minus(reach(families, rates, more)[0], now) for more in (mine, its, both)])


def least_enough(families, rates, strengths, house):
    """The least strength of the house at which the reach is as great as with its own."""
    number, prices = line_of(families, rates, strengths, house)[-1]
    if prices[house] == NOUGHT and is_less(number, strengths[house]):
        return number
    return strengths[house]


def wanted(store, rates):
    """("wanted", strengths): for each house the least strength at which the reach is as great."""
    need_some_rates(store, rates)
    families, strengths = families_of(store), strengths_of(store)
    item = out_asked(families, rates)
    if item is not None:
        return "out", item
    return "wanted", tuple([least_enough(families, rates, strengths, house) for house in range(len(store))])
