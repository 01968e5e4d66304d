"""What the counts of houses tell of the asks, where nobody wrote down which items were asked for, nor of which lots."""

from itertools import combinations

from sumshelves.checks import (
    are_fractions, is_fraction, is_integer, is_rising, is_signed, is_signed_row, is_told, need_few_houses, need_item,
    need_lot,
)
from sumshelves.errors import BadCounts, BadFraction, BadWeights, Quarrel
from sumshelves.fracs import MINUS_ONE, NOUGHT, is_less, reduced, scaled, sum_product, total, whole
from sumshelves.fitting import all_spots, fit_all, fit_at, fitted
from sumshelves.shares import families_of, is_plan, loads_of, sums_of_items
from sumshelves.steps import free_rows, place_of, stepped

MOST_WEIGHT = 9


def need_counts(store, counts):
    """BadCounts unless this is a tuple with a fraction for each house."""
    if not are_fractions(counts, len(store)):
        raise BadCounts(counts)


def need_weights(store, weights):
    """BadWeights unless this is a tuple with an integer from -9 to 9 for each item."""
    if not isinstance(weights, tuple) or len(weights) != len(store.item_names):
        raise BadWeights(weights)
    if not all([is_integer(weight) and -MOST_WEIGHT <= weight <= MOST_WEIGHT for weight in weights]):
        raise BadWeights(weights)


def fits(families, counts, value):
    """Whether this is a plan that fits the counts."""
    return is_plan(families, value) and loads_of(len(counts), value) == counts


def lot_sum(row, lot):
    """What the lot comes to by a signed row."""
    return total([row[house] for house in lot])


def is_row_up_to(families, weights, many, value):
    """Whether this is a signed row by which each lot comes to its item's weight at most."""
    if not is_signed_row(value, many):
        return False
    return not any([is_less(whole(weights[item]), lot_sum(value, lot)) for item, lot in all_spots(families)])


def is_row_from(families, weights, many, value):
    """Whether this is a signed row by which each lot comes to its item's weight at least."""
    if not is_signed_row(value, many):
        return False
    return not any([is_less(lot_sum(value, lot), whole(weights[item])) for item, lot in all_spots(families)])


def heard_plan(store, counts):
    """("plan", plan) that fits the counts, or ("quarrel", row)."""
    need_counts(store, counts)
    families = families_of(store)
    plan, row = fit_all(families, counts)
    return ("quarrel", row) if plan is None else ("plan", plan)


def shows_heard_plan(store, counts, value):
    """Whether this value is such a result as heard_plan tells."""
    need_counts(store, counts)
    families = families_of(store)
    if is_told(value, "plan", 2):
        return fits(families, counts, value[1])
    if not is_told(value, "quarrel", 2) or not is_row_from(families, nothing(families), len(counts), value[1]):
        return False
    return sum_product(value[1], counts)[0] < 0


def nothing(families):
    """The weight 0 for each item."""
    return (0,) * len(families)


def alone(families, item):
    """The weight 1 for this item, and 0 for all others."""
    return tuple([1 if other == item else 0 for other in range(len(families))])


def need_fitting(families, counts):
    """Quarrel(counts) if no plan fits them."""
    if fit_all(families, counts)[0] is None:
        raise Quarrel(counts)


def most_heard(families, counts, weights):
    """(sum, plan, row): the greatest sum by these weights of plans that fit, such a plan, a row that lets no more.

    By the row each lot comes to its item's weight at least, and the counts come to the sum.
    """
    plan, row = fitted(families, counts, weights)
    return plan_sum(plan, weights), plan, row


def least_heard(families, counts, weights):
    """(sum, plan, row): the least sum by these weights, a plan of this sum, a row that lets no less."""
    less, plan, row = most_heard(families, counts, tuple([-weight for weight in weights]))
    return (-less[0], less[1]), plan, scaled(row, MINUS_ONE)


def plan_sum(plan, weights):
    """The plan's rates times the weights."""
    return sum_product(sums_of_items(len(weights), plan), [whole(weight) for weight in weights])


def heard_range(store, counts, item):
    """("range", least, greatest, low, high) of this item's rate in plans that fit the counts."""
    need_counts(store, counts)
    need_item(store, item)
    families = families_of(store)
    need_fitting(families, counts)
    weights = alone(families, item)
    low, high = least_heard(families, counts, weights), most_heard(families, counts, weights)
    return "range", low[0], high[0], low[1:], high[1:]


def shows_heard_range(store, counts, item, value):
    """Whether this value is such a result as heard_range tells."""
    need_counts(store, counts)
    need_item(store, item)
    families = families_of(store)
    need_fitting(families, counts)
    if not is_told(value, "range", 5):
        return False
    _, least, greatest, low, high = value
    weights = alone(families, item)
    if not is_end(families, counts, weights, least, low) or not is_end(families, counts, weights, greatest, high):
        return False
    many = len(counts)
    return is_row_up_to(families, weights, many, low[1]) and is_row_from(families, weights, many, high[1])


def is_end(families, counts, weights, rate, value):
    """Whether this is (a plan that fits and has this sum, a signed row by which the counts come to it)."""
    if not is_fraction(rate) or not isinstance(value, tuple) or len(value) != 2:
        return False
    plan, row = value
    if not fits(families, counts, plan) or not is_signed_row(row, len(counts)):
        return False
    return plan_sum(plan, weights) == rate and sum_product(row, counts) == rate


def need_sure(store, counts, weights, number):
    """The store's families; BadCounts, BadWeights, BadFraction, or Quarrel if no plan fits."""
    need_counts(store, counts)
    need_weights(store, weights)
    if not is_signed(number):
        raise BadFraction(number)
    families = families_of(store)
    need_fitting(families, counts)
    return families


def heard_sure(store, counts, weights, number):
    """Whether what was asked comes to this number: ("surely", row), ("never", row) or ("open", plan, plan)."""
    families = need_sure(store, counts, weights, number)
    least, less, row = least_heard(families, counts, weights)
    if not is_less(least, number):
        return "surely", row
    most, more, row = most_heard(families, counts, weights)
    return ("never", row) if is_less(most, number) else ("open", more, less)


def shows_heard_sure(store, counts, weights, number, value):
    """Whether this value is such a result as heard_sure tells."""
    families = need_sure(store, counts, weights, number)
    many = len(counts)
    if is_told(value, "surely", 2):
        row = value[1]
        return is_row_up_to(families, weights, many, row) and not is_less(sum_product(row, counts), number)
    if is_told(value, "never", 2):
        row = value[1]
        return is_row_from(families, weights, many, row) and is_less(sum_product(row, counts), number)
    if not is_told(value, "open", 3) or not all([fits(families, counts, plan) for plan in value[1:]]):
        return False
    return not is_less(plan_sum(value[1], weights), number) and is_less(plan_sum(value[2], weights), number)


def settling_rows(families, lot, weights):
    """The rows in steps of what has to come to the weights at the lot's houses, the weights behind."""
    rows = []
    for item, held in all_spots(families):
        rows.append([1 if house in held else 0 for house in lot] + [weights[item]])
    return stepped(rows)


def is_settled(rows, lot):
    """Whether what the rows ask for at the lot's houses can be."""
    return not rows or place_of(rows[-1]) < len(lot)


def settling(store, lot, weights):
    """("row", row) if the counts of these houses tell the sum for all plans, or ("two", plan, plan)."""
    need_lot(store, lot)
    need_weights(store, weights)
    families = families_of(store)
    rows = settling_rows(families, lot, weights)
    if not is_settled(rows, lot):
        return ("two",) + unlike_plans(families, lot, weights)
    parts = {lot[place_of(row)]: reduced(row[-1], row[place_of(row)]) for row in rows}
    return "row", tuple([parts.get(house, NOUGHT) for house in range(len(store))])


def unlike_plans(families, lot, weights):
    """Two plans with the same counts at the lot's houses and unlike sums; there are two if no row settles the sum."""
    spots = all_spots(families)
    rows = [[1 if house in held else 0 for _, held in spots] for house in lot]
    for parts in free_rows(rows, len(spots)):
        if sum([part * weights[item] for part, (item, _) in zip(parts, spots)]) != 0:
            more = [(*spot, whole(part)) for spot, part in zip(spots, parts) if part > 0]
            less = [(*spot, whole(-part)) for spot, part in zip(spots, parts) if part < 0]
            return tuple(sorted(more)), tuple(sorted(less))
    return None


def shows_settling(store, lot, weights, value):
    """Whether this value is such a result as settling tells."""
    need_lot(store, lot)
    need_weights(store, weights)
    families, many = families_of(store), len(store)
    if is_told(value, "row", 2):
        row = value[1]
        if not is_row_up_to(families, weights, many, row) or not is_row_from(families, weights, many, row):
            return False
        return all([row[house] == NOUGHT for house in range(many) if house not in lot])
    if not is_told(value, "two", 3) or not all([is_plan(families, plan) for plan in value[1:]]):
        return False
    one, other = loads_of(many, value[1]), loads_of(many, value[2])
    if any([one[house] != other[house] for house in lot]):
        return False
    return plan_sum(value[1], weights) != plan_sum(value[2], weights)


def settling_lots(store, weights):
    """The family of the least lots of houses whose counts tell the sum."""
    need_weights(store, weights)
    need_few_houses(store)
    families, found = families_of(store), []
    for size in range(len(store) + 1):
        for lot in combinations(range(len(store)), size):
            if any([all([house in lot for house in less]) for less in found]):
                continue
            if is_settled(settling_rows(families, lot, weights), lot):
                found = found + [lot]
    return tuple(found)


def settled_sums(store, lot):
    """The weights that the counts of these houses tell, by a base: rows of integers in steps."""
    need_lot(store, lot)
    families = families_of(store)
    many = len(families)
    rows = [list(alone(families, item)) + [0] * len(lot) for item in range(many) if not families[item]]
    for item, held in all_spots(families):
        less = [-weight for weight in alone(families, item)]
        rows.append(less + [1 if house in held else 0 for house in lot])
    told = [row[:many] for row in free_rows(rows, many + len(lot))]
    return tuple([tuple(row) for row in stepped(told)])


def wrong_counts(store, counts):
    """("wrong", lot, plan): the fewest houses beside which all counts fit, and a plan that fits these."""
    need_counts(store, counts)
    need_few_houses(store)
    families = families_of(store)
    for size in range(len(store)):
        for lot in combinations(range(len(store)), size):
            plan, _ = fit_at(families, counts, [house for house in range(len(store)) if house not in lot])
            if plan is not None:
                return "wrong", lot, plan
    return "wrong", tuple(range(len(store))), ()


def shows_wrong_counts(store, counts, value):
    """Whether this value is such a result as wrong_counts tells."""
    fewest = wrong_counts(store, counts)[1]
    if not is_told(value, "wrong", 3):
        return False
    _, lot, plan = value
    if not is_rising(lot, len(store)) or len(lot) != len(fewest) or not is_plan(families_of(store), plan):
        return False
    loads = loads_of(len(store), plan)
    return all([loads[house] == counts[house] for house in range(len(store)) if house not in lot])
