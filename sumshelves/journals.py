"""Journals: the text of a hall's store and of the deeds that stand."""

from sumshelves.errors import BadJournal, BadStore, SumError, Wide
from sumshelves.hall import Hall
from sumshelves.stores import Store
from sumshelves.words import are_formed, read_words

HALL_LINE = "hall"
# For each deed the kinds of the words behind it.
DEEDS = {"come": ("item",), "go": ("number",), "fall": ("house",), "rise": ("house",), "settle": ()}


def journal(hall):
    """The lines of the hall's store, a line hall, and a line for each deed that stands."""
    return "\n".join([hall.store.text, HALL_LINE] + [deed[0] for deed in hall.deeds])


def deed_told(hall, word, values):
    """What the hall tells of a deed, which it does."""
    if word == "come":
        return hall.come(values[0])
    if word == "go":
        return hall.go(values[0])
    if word == "fall":
        return hall.fall(values[0])
    if word == "rise":
        return hall.rise(values[0])
    return hall.settle()


def do_line(hall, line, number):
    """Does what the line of this number tells; BadJournal if it tells no deed, or one that the hall refuses."""
    word, *words = line.split(" ")
    kinds = DEEDS.get(word)
    if kinds is None or not are_formed(words, kinds):
        raise BadJournal(number)
    try:
        deed_told(hall, word, read_words(hall.store, words, kinds))
    except SumError:
        raise BadJournal(number) from None


def new_hall(lines):
    """The hall of the store of these lines; BadJournal if they tell none, or one with too many houses."""
    try:
        return Hall(Store("\n".join(lines)))
    except BadStore as error:
        raise BadJournal(error.value) from None
    except Wide:
        raise BadJournal(len(lines) + 1) from None


def read_journal(text):
    """The hall of the journal's store, on which its deeds were done."""
    if not isinstance(text, str):
        raise BadJournal(0)
    lines = text.split("\n")
    if HALL_LINE not in lines:
        raise BadJournal(len(lines) + 1)
    at = lines.index(HALL_LINE)
    hall = new_hall(lines[:at])
    for number, line in enumerate(lines[at + 1:], start=at + 2):
        do_line(hall, line, number)
    return hall
