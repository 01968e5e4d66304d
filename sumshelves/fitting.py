"""Plans whose loads are just as told, and signed rows that let no more of what is wanted, or no such plan at all."""

from sumshelves.fracs import common, reduced
from sumshelves.linear import best
from sumshelves.shares import loads_of

MORE = 10


def all_spots(families):
    """The list of (item, lot) of all lots of all items."""
    return [(item, lot) for item, family in enumerate(families) for lot in family]


def pushed(families, counts, houses, gains, push):
    """(plan, row): a plan that loads none of these houses above its count, and gains most; a row that shows it.

    Each ask gains what its item does, and push at each of these houses. By the row each lot comes to what its item
    gains at least, and the plan gains what the counts come to by it, and push for all counts.
    """
    limits, unit = common([counts[house] for house in houses])
    spots = all_spots(families)
    columns = [[1 if house in lot else 0 for house in houses] for _, lot in spots]
    wanted = [push * sum(column) + gains[item] for column, (item, _) in zip(columns, spots)]
    parts, costs, low = best(columns, limits, wanted)
    rows = [(*spot, reduced(part, low * unit)) for spot, part in zip(spots, parts) if part > 0]
    return tuple(sorted(rows)), tuple([reduced(cost - push * low, low) for cost in costs])


def is_full(counts, houses, plan):
    """Whether the plan loads these houses just as they count."""
    loads = loads_of(len(counts), plan)
    return all([loads[house] == counts[house] for house in houses])


def fit_at(families, counts, houses):
    """(plan, None) with a plan that fits the counts of these houses, or (None, row).

    By the row, a fraction for each of these houses, tops perhaps below 0, each lot comes to 0 or more, and the counts
    to less than 0.
    """
    plan, row = pushed(families, counts, houses, [0] * len(families), 1)
    return (plan, None) if is_full(counts, houses, plan) else (None, row)


def fit_all(families, counts):
    """(plan, None) with a plan that fits the counts of all houses, or (None, row)."""
    return fit_at(families, counts, list(range(len(counts))))


def fitted(families, counts, gains):
    """(plan, row): of the plans that fit these counts one that gains most, whole gains by item; there are such plans.

    By the row each lot comes to what its item gains at least, and the counts come to what the plan gains.
    """
    houses, push = list(range(len(counts))), 1
    plan, row = pushed(families, counts, houses, gains, push)
    # What is gained may be less than what is lost of the counts, till the push is strong enough.
    while not is_full(counts, houses, plan):
        push = push * MORE
        plan, row = pushed(families, counts, houses, gains, push)
    return plan, row
