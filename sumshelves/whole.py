"""Whole asks: placings of so many asks at once, and trees where there is none."""

from sumshelves.checks import is_below, is_told, need_few_houses, need_item, need_number
from sumshelves.errors import BadAsks, Out
from sumshelves.shares import families_of, is_out_told, out_asked
from sumshelves.trees import is_placing, is_tree, placing_or_tree, wholes

MOST_OF_ITEM = 9
MOST_ASKS = 12
MOST_ANY = 6


def need_asks(store, asks):
    """BadAsks unless this is a tuple with an integer from 0 to 9 for each item, at most twelve together."""
    if not isinstance(asks, tuple) or len(asks) != len(store.item_names):
        raise BadAsks(asks)
    if not all([is_below(many, MOST_OF_ITEM + 1) for many in asks]) or sum(asks) > MOST_ASKS:
        raise BadAsks(asks)


def need_lots_of(families, item):
    """Out(item) if it has no lots."""
    if not families[item]:
        raise Out(item)


def need_lots_of_all(families):
    """Out with the first item that has no lots."""
    for item in range(len(families)):
        need_lots_of(families, item)


def whole_plan(store, asks):
    """("placing", placing), ("barred", tree) or ("out", item)."""
    need_few_houses(store)
    need_asks(store, asks)
    families = families_of(store)
    item = out_asked(families, wholes(asks))
    if item is not None:
        return "out", item
    placing, tree = placing_or_tree(families, asks, store.strengths)
    return ("barred", tree) if placing is None else ("placing", placing)


def shows_whole_plan(store, asks, value):
    """Whether this value is such a result as whole_plan tells."""
    need_few_houses(store)
    need_asks(store, asks)
    families = families_of(store)
    if out_asked(families, wholes(asks)) is not None:
        return is_out_told(families, wholes(asks), value)
    if is_told(value, "placing", 2):
        return is_placing(families, asks, store.strengths, value[1])
    return is_told(value, "barred", 2) and is_tree(families, asks, store.strengths, value[1])


def asks_of(many, item, number):
    """Asks of so many items: this number of the item, none of all others."""
    return tuple([number if other == item else 0 for other in range(many)])


def most_of(store, item):
    """(number, placing, tree): the most asks of this item alone that have a placing, nine at most."""
    need_few_houses(store)
    need_item(store, item)
    families = families_of(store)
    need_lots_of(families, item)
    found = ()
    for number in range(1, MOST_OF_ITEM + 1):
        placing, tree = placing_or_tree(families, asks_of(len(families), item, number), store.strengths)
        if placing is None:
            return number - 1, found, tree
        found = placing
    return MOST_OF_ITEM, found, None


def shows_most_of(store, item, value):
    """Whether this value is such a result as most_of tells."""
    need_few_houses(store)
    need_item(store, item)
    families = families_of(store)
    need_lots_of(families, item)
    if not isinstance(value, tuple) or len(value) != 3 or not is_below(value[0], MOST_OF_ITEM + 1):
        return False
    number, placing, tree = value
    if not is_placing(families, asks_of(len(families), item, number), store.strengths, placing):
        return False
    if number == MOST_OF_ITEM:
        return tree is None
    return is_tree(families, asks_of(len(families), item, number + 1), store.strengths, tree)


def all_asks(many, number):
    """All asks of so many items that are this number together, ascending."""
    if many == 1:
        return [(number,)]
    found = []
    for first in range(number + 1):
        found.extend([(first,) + rest for rest in all_asks(many - 1, number - first)])
    return found


def first_barred(families, strengths, many):
    """(asks, tree) of the first asks of so many together that have no placing; None if all have one."""
    for asks in all_asks(len(families), many):
        placing, tree = placing_or_tree(families, asks, strengths)
        if placing is None:
            return asks, tree
    return None


def any_asks(store, many):
    """("always",) if all asks of so many together have a placing, or ("barred", asks, tree)."""
    need_few_houses(store)
    families = families_of(store)
    need_lots_of_all(families)
    need_number(many, MOST_ANY + 1)
    found = first_barred(families, store.strengths, many)
    return ("always",) if found is None else ("barred",) + found


def shows_any_asks(store, many, value):
    """Whether this value is such a result as any_asks tells."""
    need_few_houses(store)
    families = families_of(store)
    need_lots_of_all(families)
    need_number(many, MOST_ANY + 1)
    if is_told(value, "always", 1):
        return first_barred(families, store.strengths, many) is None
    if not is_told(value, "barred", 3):
        return False
    _, asks, tree = value
    if not isinstance(asks, tuple) or len(asks) != len(families):
        return False
    if not all([is_below(number, many + 1) for number in asks]) or sum(asks) != many:
        return False
    return is_tree(families, asks, store.strengths, tree)


def most_any(store):
    """The greatest number, six at most, such that all asks of so many together have a placing."""
    need_few_houses(store)
    families = families_of(store)
    need_lots_of_all(families)
    for many in range(1, MOST_ANY + 1):
        if first_barred(families, store.strengths, many) is not None:
            return many - 1
    return MOST_ANY
