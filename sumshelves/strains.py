"""Strains: how often strengths have to be taken for reads and writes that are mixed, share by share.

Families here have those of the store's items ahead, and behind them for each item one with the lot of all houses that
have it: writes are asks of these. Rates are reads, and behind them writes, of as many items.
"""

from sumshelves.fracs import NOUGHT, ONE, divided, minus, multiplied, plus, scaled
from sumshelves.reaching import plan_times, reach
from sumshelves.shares import cost_of, families_of, is_bearing, is_plan
from sumshelves.stores import having

HALF = (1, 2)


def with_writes(store):
    """The families of the store's items, and behind them for each item one with the lot of all houses that have it."""
    families = families_of(store)
    return families + tuple([(having(store, item),) for item in range(len(families))])


def together(families, reads, writes):
    """Both as rates of these families; writes that ask no house count for nothing."""
    many = len(reads)
    asked = [rate if families[many + item][0] else NOUGHT for item, rate in enumerate(writes)]
    return reads + tuple(asked)


def mixed_at(rates, share):
    """Of these rates the reads so much less than once as the share tells, the writes so often."""
    many = len(rates) // 2
    return scaled(rates[:many], minus(ONE, share)) + scaled(rates[many:], share)


def plan_of_reads(plan, many):
    """The rows of a plan that are of the first items, so many."""
    return tuple([row for row in plan if row[0] < many])


def is_borne_together(families, strengths, rates, value):
    """Whether this is a plan of the reads that is borne together with the writes."""
    many = len(rates) // 2
    if not is_plan(families[:many], value):
        return False
    rows = [(item, families[item][0], rates[item]) for item in range(many, len(rates)) if rates[item][0] > 0]
    return is_bearing(families, strengths, rates, value + tuple(rows))


def costs_of(families, rates, prices):
    """(what the reads cost, what the writes cost) at these prices."""
    nothing = scaled(rates, NOUGHT)
    many = len(rates) // 2
    reads, writes = rates[:many] + nothing[many:], nothing[:many] + rates[many:]
    return cost_of(families, reads, prices), cost_of(families, writes, prices)


def value_at(costs, share):
    """What reads and writes mixed at this share cost, if these are the costs of both."""
    return plus(costs[0], multiplied(share, minus(costs[1], costs[0])))


def even_prices(strengths):
    """Prices whose worth is 1, or 0 if all strengths are 0."""
    for house, strength in enumerate(strengths):
        if strength[0] > 0:
            prices = scaled(strengths, NOUGHT)
            return prices[:house] + (divided(ONE, strength),) + prices[house + 1:]
    return strengths


def never_prices(families, strengths, rates):
    """Prices of worth 0 at which reads or writes cost something; None if there is a strain between 0 and 1."""
    between = mixed_at(rates, HALF)
    if not is_some(between):
        return None
    times, _, prices = reach(families, between, strengths)
    return prices if times == NOUGHT else None


def is_some(rates):
    """Whether some of these rates is above 0."""
    return any([rate[0] > 0 for rate in rates])


def strain_at(families, strengths, rates, share):
    """(strain, plan, prices) at a share at which there is a strain.

    The plan of the reads is borne together with the writes at strengths so often taken; at the prices, of worth 1 (0 if
    all strengths are 0), reads and writes cost the strain.
    """
    here = mixed_at(rates, share)
    if not is_some(here):
        return NOUGHT, (), even_prices(strengths)
    times, plan, prices = reach(families, here, strengths)
    strain = divided(ONE, times)
    return strain, plan_of_reads(plan_times(plan, strain), len(rates) // 2), scaled(prices, strain)


def stretches_between(families, strengths, rates, left, right):
    """The list of (prices, share) for each stretch between two points, with the share at which it ends.

    A point is (share, strain, prices) with prices at which reads and writes cost the strain there. What they cost at
    other shares is never more than the strain: so prices that cost it at both ends cost it all along between them.
    """
    start, strain, prices = left
    end, most, others = right
    one, other = costs_of(families, rates, prices), costs_of(families, rates, others)
    if value_at(one, end) == most:
        return [(prices, end)]
    if value_at(other, start) == strain:
        return [(others, end)]
    ahead, steeper = minus(one[0], other[0]), minus(minus(other[1], other[0]), minus(one[1], one[0]))
    share = divided(ahead, steeper)
    found, _, between = strain_at(families, strengths, rates, share)
    if found == value_at(one, share):
        return [(prices, share), (others, end)]
    middle = (share, found, between)
    first = stretches_between(families, strengths, rates, left, middle)
    return first + stretches_between(families, strengths, rates, middle, right)


def stretches_of(families, strengths, rates):
    """The list of (prices, share) for each stretch from 0 to 1 along which the strain goes straight, and its end."""
    points = []
    for share in (NOUGHT, ONE):
        strain, _, prices = strain_at(families, strengths, rates, share)
        points.append((share, strain, prices))
    found = []
    for prices, share in stretches_between(families, strengths, rates, points[0], points[1]):
        # Where both costs are the same by two rows of prices, it goes on straight.
        if found and costs_of(families, rates, prices) == costs_of(families, rates, found[-1][0]):
            prices = found[-1][0]
            found = found[:-1]
        found = found + [(prices, share)]
    return found
