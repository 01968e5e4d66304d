"""Whole asks: looking for a placing, and the tree that tells why there is none.

Of each item so many asks are left, of each house so much strength; lots that are set are gone from the families.
"""

from sumshelves.checks import is_below, is_integer, is_told
from sumshelves.fracs import whole
from sumshelves.reaching import borne_or_barred
from sumshelves.shares import is_barring, is_one_of


def wholes(numbers):
    """These integers as fractions."""
    return tuple([whole(number) for number in numbers])


def most_set(asks, left, item, lot):
    """How many asks of the item can go to the lot at most."""
    return min([asks[item]] + [left[house] for house in lot])


def after(families, asks, left, spot, number):
    """(families, asks, left) behind a spot, (item, lot), that is set with this number."""
    item, lot = spot
    unset = tuple([other for other in families[item] if other != lot])
    return (
        families[:item] + (unset,) + families[item + 1:],
        asks[:item] + (asks[item] - number,) + asks[item + 1:],
        tuple([strength - number if house in lot else strength for house, strength in enumerate(left)]),
    )


def is_more_parted(share, other):
    """Whether this share is nearer to a half between two integers than the other one."""
    gap, also = abs(2 * (share[0] % share[1]) - share[1]), abs(2 * (other[0] % other[1]) - other[1])
    return gap * other[1] < also * share[1]


def parted_row(plan):
    """The row of a plan whose share is least whole; None if all shares are whole."""
    found = None
    for row in plan:
        if row[2][1] > 1 and (found is None or is_more_parted(row[2], found[2])):
            found = row
    return found


def numbers_from(share, most):
    """All numbers from 0 to most, those that are nearest to the share ahead."""
    return sorted(range(most + 1), key=lambda number: abs(number * share[1] - share[0]))


def placed(families, asks, left):
    """(rows, None) with rows (item, lot, number) that place the asks, or (None, tree) with a tree of them.

    Each item that is asked has lots. It never loses its last one: all its asks go to it, so its share is whole.
    """
    plan, prices = borne_or_barred(families, wholes(asks), wholes(left))
    if plan is None:
        return None, ("prices", prices)
    row = parted_row(plan)
    if row is None:
        return tuple([(item, lot, share[0]) for item, lot, share in plan]), None
    item, lot, share = row
    most = most_set(asks, left, item, lot)
    trees = [None] * (most + 1)
    for number in numbers_from(share, most):
        state = after(families, asks, left, (item, lot), number)
        rows, tree = placed(*state)
        trees[number] = tree
        if rows is not None:
            return (*rows, (item, lot, number)) if number > 0 else rows, None
    return None, ("set", item, lot, tuple(trees))


def placing_or_tree(families, asks, left):
    """(placing, None) with an ascending placing of these asks, or (None, tree); each item that is asked has lots."""
    rows, tree = placed(families, asks, left)
    return (None, tree) if rows is None else (tuple(sorted(rows)), None)


def is_tree(families, asks, left, value):
    """Whether this is a tree of these asks."""
    if is_told(value, "none", 2):
        item = value[1]
        return is_below(item, len(families)) and asks[item] > 0 and not families[item]
    if is_told(value, "prices", 2):
        return is_barring(families, wholes(left), wholes(asks), value[1])
    if not is_told(value, "set", 4):
        return False
    _, item, lot, trees = value
    if not is_below(item, len(families)) or not is_one_of(families[item], lot) or not isinstance(trees, tuple):
        return False
    if len(trees) != most_set(asks, left, item, lot) + 1:
        return False
    for number, tree in enumerate(trees):
        fewer, rest, remaining = after(families, asks, left, (item, lot), number)
        if not is_tree(fewer, rest, remaining, tree):
            return False
    return True


def is_placed_row(families, value):
    """Whether this is (item, lot, many), of one of the item's lots, many from 1 on."""
    if not isinstance(value, tuple) or len(value) != 3:
        return False
    item, lot, many = value
    if not is_below(item, len(families)) or not is_one_of(families[item], lot):
        return False
    return is_integer(many) and many >= 1


def is_placing(families, asks, left, value):
    """Whether this is a placing of these asks."""
    if not isinstance(value, tuple) or not all([is_placed_row(families, row) for row in value]):
        return False
    places = [row[:2] for row in value]
    if not all([place < following for place, following in zip(places, places[1:])]):
        return False
    sums = [sum([row[2] for row in value if row[0] == item]) for item in range(len(asks))]
    loads = [sum([row[2] for row in value if house in row[1]]) for house in range(len(left))]
    return tuple(sums) == asks and all([load <= strength for load, strength in zip(loads, left)])
