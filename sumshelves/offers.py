"""Offers: changes of a store that have a price, and the choices of them that can be made together."""

from itertools import combinations

from sumshelves.checks import is_below, is_integer, is_name, is_piece, is_pieces, is_rising
from sumshelves.errors import BadChoice, BadOffers
from sumshelves.stores import FIGURES, MOST_HOUSES, MOST_PIECES

MOST_OFFERS = 4
MOST_PRICE = 99
SIZES = {"house": 5, "piece": 4, "strength": 4, "without": 4}


def is_offer(store, value):
    """Whether this is an offer that fits the store."""
    if not isinstance(value, tuple) or not value or not isinstance(value[0], str):
        return False
    if len(value) != SIZES.get(value[0]) or not is_integer(value[-1]) or not 1 <= value[-1] <= MOST_PRICE:
        return False
    if value[0] == "house":
        return is_house_offer(store, value[1], value[2], value[3])
    word, house, part, _ = value
    if not is_below(house, len(store)):
        return False
    pieces = store.pieces[house]
    if word == "piece":
        return len(pieces) == 1 and is_piece(part, len(store.item_names)) and part not in pieces
    if word == "strength":
        return is_below(part, len(FIGURES)) and part != store.strengths[house]
    return len(pieces) == MOST_PIECES and is_below(part, MOST_PIECES)


def is_house_offer(store, name, strength, pieces):
    """Whether a house of this name, strength and pieces can stand beside those of the store."""
    if not is_name(name) or name in store.house_names:
        return False
    return is_below(strength, len(FIGURES)) and is_pieces(pieces, len(store.item_names))


def need_offers(store, offers):
    """BadOffers unless these are offers that fit the store."""
    if not isinstance(offers, tuple) or len(offers) > MOST_OFFERS:
        raise BadOffers(offers)
    if not all([is_offer(store, offer) for offer in offers]):
        raise BadOffers(offers)
    # Those that are alike but for their price would stand side by side.
    for offer, following in zip(offers, offers[1:]):
        if not offer[:-1] < following[:-1]:
            raise BadOffers(offers)


def counts(store, offers, choice):
    """Whether these numbers of offers are a choice that counts."""
    changed = [offers[number][:2] for number in choice]
    more = len([offer for offer in changed if offer[0] == "house"])
    return len(set(changed)) == len(changed) and len(store) + more <= MOST_HOUSES


def choices(store, offers):
    """The tuple of (price, choice) of all choices that count, by price, then by how many offers, then as tuples."""
    need_offers(store, offers)
    found = []
    for size in range(len(offers) + 1):
        for choice in combinations(range(len(offers)), size):
            if counts(store, offers, choice):
                found.append((sum([offers[number][-1] for number in choice]), choice))
    return tuple(sorted(found, key=lambda row: (row[0], len(row[1]), row[1])))


def chosen(store, offers, choice):
    """The store with all offers of this choice."""
    need_offers(store, offers)
    if not is_rising(choice, len(offers)) or not counts(store, offers, choice):
        raise BadChoice(choice)
    return with_all(store, [offers[number] for number in choice])


def with_all(store, offers):
    """The store with all of these offers."""
    for offer in offers:
        if offer[0] == "house":
            store = store.with_house(offer[1], offer[2], offer[3])
        elif offer[0] == "piece":
            store = store.with_piece(offer[1], offer[2])
        elif offer[0] == "strength":
            store = store.with_strength(offer[1], offer[2])
        else:
            store = store.without_piece(offer[1], offer[2])
    return store
