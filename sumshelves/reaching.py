"""How many times rates can be borne: plans that come to it, and prices that let no more."""

from sumshelves.fracs import ONE, common, divided, is_less, minus, multiplied, reduced, scaled
from sumshelves.linear import best
from sumshelves.shares import cost_of


def question(families, rates, strengths):
    """(spots, columns, limits, by): the times, and each lot, as columns for the items that are asked and the houses.

    A spot is (item, lot), for each column behind the first one. Real times are by times what the columns tell.
    """
    asked = [item for item in range(len(rates)) if rates[item][0] > 0]
    tops, low = common(rates)
    limits, unit = common(strengths)
    spots = [(item, lot) for item in asked for lot in families[item]]
    columns = [[tops[item] for item in asked] + [0] * len(strengths)]
    for item, lot in spots:
        short = [-1 if item == other else 0 for other in asked]
        columns.append(short + [1 if house in lot else 0 for house in range(len(strengths))])
    return spots, columns, [0] * len(asked) + limits, (low, unit)


def trimmed(rows, wanted):
    """These rows, ascending, with so much less of each item that its shares come to what is wanted of it."""
    left = list(wanted)
    plan = []
    for item, lot, share in sorted(rows):
        take = share if is_less(share, left[item]) else left[item]
        left[item] = minus(left[item], take)
        if take[0] > 0:
            plan.append((item, lot, take))
    return tuple(plan)


def reach(families, rates, strengths, capped=False):
    """(times, plan, prices): the greatest times that these rates are borne at these strengths.

    Each item with a rate above 0 has lots. The plan bears them so many times; at the prices the rates cost just 1, and
    the strengths are worth times. Capped, times is 1 at most, and prices is None then; else not all rates are 0.
    """
    spots, columns, limits, by = question(families, rates, strengths)
    if capped:
        columns = [columns[0] + [by[0]]] + [column + [0] for column in columns[1:]]
        limits = limits + [by[1]]
    parts, costs, low = best(columns, limits, [1] + [0] * len(spots))
    times = reduced(parts[0] * by[0], low * by[1])
    rows = [(*spot, reduced(part, low * by[1])) for spot, part in zip(spots, parts[1:]) if part > 0]
    plan = trimmed(rows, scaled(rates, times))
    if capped and times == ONE:
        return times, plan, None
    first = len(columns[0]) - len(strengths) - (1 if capped else 0)
    prices = [reduced(cost, low) for cost in costs[first:first + len(strengths)]]
    # Where the times are 0 the rates may cost more at these than they have to.
    return times, plan, scaled(prices, divided(ONE, cost_of(families, rates, prices)))


def borne_or_barred(families, rates, strengths):
    """(plan, None) with a plan that bears these rates, or (None, prices) with prices that bar them.

    Each item with a rate above 0 has lots.
    """
    _, plan, prices = reach(families, rates, strengths, True)
    return (plan, None) if prices is None else (None, prices)


def plan_times(plan, by):
    """The plan with each share so many times as great, by a fraction above 0."""
    return tuple([(item, lot, multiplied(share, by)) for item, lot, share in plan])


def most_weighed(families, weights, strengths):
    """(worth, plan, prices): the greatest sum of whole weights times borne rates, at whole strengths.

    The plan bears such rates; at the prices each item with lots costs at least its weight, and the strengths are
    worth so much.
    """
    spots = [(item, lot) for item in range(len(families)) if weights[item] > 0 for lot in families[item]]
    columns = [[1 if house in lot else 0 for house in range(len(strengths))] for _, lot in spots]
    gains = [weights[item] for item, _ in spots]
    parts, costs, low = best(columns, list(strengths), gains)
    worth = reduced(sum([gain * part for gain, part in zip(gains, parts)]), low)
    rows = [(*spot, reduced(part, low)) for spot, part in zip(spots, parts) if part > 0]
    return worth, tuple(sorted(rows)), tuple([reduced(cost, low) for cost in costs])
