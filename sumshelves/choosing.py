"""Wishes of what a store should bear, and the cheapest choice of offers by which they come true."""

from sumshelves.checks import are_fractions, is_below, is_integer, is_rising, is_told
from sumshelves.errors import BadWish, BadWishes
from sumshelves.falls import behind_falls, shows_behind_falls
from sumshelves.lots import least_lots, losing_lots
from sumshelves.offers import choices, chosen
from sumshelves.plans import borne, shows_borne
from sumshelves.shares import families_of
from sumshelves.whole import any_asks, shows_any_asks

MOST_FALLS = 2
MOST_ANY = 2
MOST_HAD = 7
MOST_WISHES = 3
WIDEST = 6
# What is told of a wish of this word that comes true begins so.
TRUE_WORDS = {"bears": "plan", "stands": "borne", "any": "always"}


def is_wish(store, value):
    """Whether this is a wish for the store."""
    many = len(store.item_names)
    if is_told(value, "bears", 2):
        return are_fractions(value[1], many)
    if is_told(value, "stands", 3):
        return are_fractions(value[1], many) and is_below(value[2], MOST_FALLS + 1)
    if is_told(value, "had", 3):
        return is_below(value[1], many) and is_below(value[2], MOST_HAD + 1)
    return is_told(value, "any", 2) and is_below(value[1], MOST_ANY + 1)


def need_wish(store, wish):
    """BadWish unless this is a wish for the store."""
    if not is_wish(store, wish):
        raise BadWish(wish)


def need_wishes(store, wishes):
    """BadWishes unless this is a tuple of one to three wishes for the store."""
    if not isinstance(wishes, tuple) or not 1 <= len(wishes) <= MOST_WISHES:
        raise BadWishes(wishes)
    if not all([is_wish(store, wish) for wish in wishes]):
        raise BadWishes(wishes)


def first_losing(store, item):
    """The first of the item's losing lots, one with the fewest houses; () if the item is out."""
    return losing_lots(store, item)[0] if least_lots(store, item) else ()


def barred_any(store):
    """What is told ahead of all asks: ("wide", 6), or ("out", item) with the first item that is out; None else."""
    if len(store) > WIDEST:
        return "wide", WIDEST
    families = families_of(store)
    return ("out", families.index(())) if () in families else None


def told_any(store, number):
    """What is told of any asks, so many."""
    barred = barred_any(store)
    return any_asks(store, number) if barred is None else barred


def told_of(store, wish):
    """What is told of the wish."""
    if wish[0] == "bears":
        return borne(store, wish[1])
    if wish[0] == "stands":
        return behind_falls(store, wish[1], wish[2])
    if wish[0] == "had":
        return first_losing(store, wish[1])
    return told_any(store, wish[1])


def is_true(wish, told):
    """Whether the wish comes true by what is told of it."""
    if wish[0] == "had":
        return len(told) > wish[2]
    return told[0] == TRUE_WORDS[wish[0]]


def comes_true(store, wish):
    """("true", told) if the wish comes true, or ("false", told)."""
    need_wish(store, wish)
    told = told_of(store, wish)
    return ("true" if is_true(wish, told) else "false"), told


def shows_told(store, wish, value):
    """Whether this value can be told of the wish."""
    if wish[0] == "bears":
        return shows_borne(store, wish[1], value)
    if wish[0] == "stands":
        return shows_behind_falls(store, wish[1], wish[2], value)
    if wish[0] == "had":
        return is_rising(value, len(store)) and value == first_losing(store, wish[1])
    barred = barred_any(store)
    if barred is None:
        return shows_any_asks(store, wish[1], value)
    return is_told(value, barred[0], 2) and is_integer(value[1]) and value[1] == barred[1]


def shows_comes_true(store, wish, value):
    """Whether this value is such a result as comes_true tells."""
    need_wish(store, wish)
    for word, way in (("true", True), ("false", False)):
        if is_told(value, word, 2):
            return shows_told(store, wish, value[1]) and is_true(wish, value[1]) == way
    return False


def why_not(store, wishes):
    """(number, told) of the first of these wishes that does not come true; None if all do."""
    for number, wish in enumerate(wishes):
        told = told_of(store, wish)
        if not is_true(wish, told):
            return number, told
    return None


def cheapest(store, offers, wishes):
    """("choice", price, choice, reasons) of the first choice by which all wishes come true, or ("none", reasons)."""
    ranked = choices(store, offers)
    need_wishes(store, wishes)
    reasons = []
    for price, choice in ranked:
        reason = why_not(chosen(store, offers, choice), wishes)
        if reason is None:
            return "choice", price, choice, tuple(reasons)
        reasons.append(reason)
    return "none", tuple(reasons)


def is_reason(store, wishes, value):
    """Whether this is (number, told) of a wish that does not come true."""
    if not isinstance(value, tuple) or len(value) != 2 or not is_below(value[0], len(wishes)):
        return False
    return shows_comes_true(store, wishes[value[0]], ("false", value[1]))


def shows_cheapest(store, offers, wishes, value):
    """Whether this value is such a result as cheapest tells."""
    ranked = choices(store, offers)
    need_wishes(store, wishes)
    if is_told(value, "none", 2):
        many, reasons = len(ranked), value[1]
    elif is_told(value, "choice", 4) and is_ranked(ranked, len(offers), value[1], value[2]):
        many, reasons = ranked.index(value[1:3]), value[3]
    else:
        return False
    if not isinstance(reasons, tuple) or len(reasons) != many:
        return False
    stores = [chosen(store, offers, choice) for _, choice in ranked[:many + 1]]
    if not all([is_reason(held, wishes, reason) for held, reason in zip(stores, reasons)]):
        return False
    return many == len(ranked) or why_not(stores[many], wishes) is None


def is_ranked(ranked, many, price, choice):
    """Whether this is a price and a choice of so many offers that stand in the ranks."""
    return is_integer(price) and is_rising(choice, many) and (price, choice) in ranked
