"""Falls: which rates are borne whichever houses fall."""

from itertools import combinations

from sumshelves.checks import (
    is_fraction, is_rising, is_told, need_few_houses, need_number, need_rates, need_some_rates,
)
from sumshelves.errors import NotBorne
from sumshelves.fracs import divided, is_less, scaled
from sumshelves.lots import blocker
from sumshelves.plans import borne, is_even
from sumshelves.reaching import borne_or_barred, plan_times, reach
from sumshelves.shares import (
    fallen, families_of, is_barring, is_bearing, is_out_told, out_asked, strengths_of,
)


def lots_of(many, size):
    """All lots of so many of the houses, ascending."""
    return list(combinations(range(many), size))


def is_unasked(plan, lot):
    """Whether the plan asks none of the lot's houses."""
    return not any([house in row[1] for row in plan for house in lot])


def behind_falls(store, rates, many):
    """("borne", plans) behind each lot of so many houses, ("broken", lot, prices), or ("out", item)."""
    need_rates(store, rates)
    need_number(many, len(store) + 1)
    families, strengths = families_of(store), strengths_of(store)
    item = out_asked(families, rates)
    if item is not None:
        return "out", item
    plans = []
    for lot in lots_of(len(store), many):
        # A plan that asks nothing of the lot goes on behind its fall.
        ready = [held for held in plans if is_unasked(held, lot)]
        plan, prices = (ready[0], None) if ready else borne_or_barred(families, rates, fallen(strengths, lot))
        if plan is None:
            return "broken", lot, prices
        plans.append(plan)
    return "borne", tuple(plans)


def shows_behind_falls(store, rates, many, value):
    """Whether this value is such a result as behind_falls tells."""
    need_rates(store, rates)
    need_number(many, len(store) + 1)
    families, strengths = families_of(store), strengths_of(store)
    if is_told(value, "borne", 2):
        return are_bearing(families, strengths, rates, many, value[1])
    if not is_told(value, "broken", 3):
        return is_out_told(families, rates, value)
    _, lot, prices = value
    if not is_rising(lot, len(store)) or len(lot) != many:
        return False
    return is_barring(families, fallen(strengths, lot), rates, prices)


def are_bearing(families, strengths, rates, many, value):
    """Whether these are plans that bear the rates behind each lot of so many houses."""
    lots = lots_of(len(strengths), many)
    if not isinstance(value, tuple) or len(value) != len(lots):
        return False
    return all([is_bearing(families, fallen(strengths, lot), rates, plan) for lot, plan in zip(lots, value)])


def bearing_family(store, rates):
    """The family of the least lots that bear the rates."""
    families, strengths = families_of(store), strengths_of(store)
    if out_asked(families, rates) is not None:
        return ()
    found = []
    for size in range(len(store) + 1):
        for lot in lots_of(len(store), size):
            others = tuple([house for house in range(len(store)) if house not in lot])
            if any([all([house in lot for house in less]) for less in found]):
                continue
            if borne_or_barred(families, rates, fallen(strengths, others))[1] is None:
                found = found + [lot]
    return tuple(found)


def breaking_lots(store, rates):
    """The family of the least lots that break the rates."""
    return blocker(len(store), bearing_lots(store, rates))


def bearing_lots(store, rates):
    """The family of the least lots that bear the rates."""
    need_rates(store, rates)
    need_few_houses(store)
    return bearing_family(store, rates)


def most_falls(store, rates):
    """The greatest number of houses such that the rates are borne behind each lot of so many."""
    breaking = breaking_lots(store, rates)
    if breaking == ((),):
        raise NotBorne(borne(store, rates))
    return len(breaking[0]) - 1 if breaking else len(store)


def need_some_falls(store, rates, many):
    """BadRates, BadNumber, or NoRates if all rates are 0."""
    need_rates(store, rates)
    need_number(many, len(store) + 1)
    need_some_rates(store, rates)


def greatest_behind(store, rates, many):
    """("times", times, plans, lot, prices) behind each lot of so many houses, or ("out", item)."""
    need_some_falls(store, rates, many)
    families, strengths = families_of(store), strengths_of(store)
    item = out_asked(families, rates)
    if item is not None:
        return "out", item
    lots = lots_of(len(store), many)
    told = [reach(families, rates, fallen(strengths, lot)) for lot in lots]
    least = 0
    for at, row in enumerate(told):
        if is_less(row[0], told[least][0]):
            least = at
    times, _, prices = told[least]
    plans = [plan_times(plan, divided(times, most)) if times[0] > 0 else () for most, plan, _ in told]
    return "times", times, tuple(plans), lots[least], prices


def shows_greatest_behind(store, rates, many, value):
    """Whether this value is such a result as greatest_behind tells."""
    need_some_falls(store, rates, many)
    families, strengths = families_of(store), strengths_of(store)
    if not is_told(value, "times", 5):
        return is_out_told(families, rates, value)
    _, times, plans, lot, prices = value
    if not is_fraction(times) or not are_bearing(families, strengths, scaled(rates, times), many, plans):
        return False
    if not is_rising(lot, len(store)) or len(lot) != many:
        return False
    return is_even(families, fallen(strengths, lot), rates, prices, times)
