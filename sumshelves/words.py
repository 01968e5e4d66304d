"""Words of lines that a hall or a desk is told: names of items and houses, and numbers."""

from sumshelves.checks import is_name
from sumshelves.errors import BadHouse, BadItem
from sumshelves.stores import FIGURES

MOST_FIGURES = 9


def is_number_word(word):
    """Whether this is an integer from 0 on as Python writes it, of nine figures at most."""
    if not 1 <= len(word) <= MOST_FIGURES or not all([sign in FIGURES for sign in word]):
        return False
    return len(word) == 1 or word[0] != "0"


def are_formed(words, kinds):
    """Whether there is a word for each of these kinds, a name or a number."""
    if len(words) != len(kinds):
        return False
    return all([is_number_word(word) if kind == "number" else is_name(word) for word, kind in zip(words, kinds)])


def read_word(store, word, kind):
    """The number of the item or the house of the store that the word names, or the number that it writes."""
    if kind == "number":
        return int(word)
    names = store.item_names if kind == "item" else store.house_names
    if word in names:
        return names.index(word)
    if kind == "item":
        raise BadItem(word)
    raise BadHouse(word)


def read_words(store, words, kinds):
    """What these words stand for; BadItem or BadHouse with the first one that names none of the store."""
    return [read_word(store, word, kind) for word, kind in zip(words, kinds)]
