"""A desk: lines that are said to a hall, and its answers."""

from sumshelves.errors import BadLine, NoAsk
from sumshelves.journals import DEEDS, deed_told, read_journal
from sumshelves.plans import borne
from sumshelves.words import are_formed, read_words

# For each further line the kinds of the words behind its first one.
QUESTIONS = {
    "undo": (), "redo": (), "at": ("number",), "asks": (), "of": ("item",), "down": (), "load": ("house",),
    "room": ("item",),
}


def kinds_of(words):
    """The kinds of the words behind the first one; None if no line begins so."""
    if words[0] == "bears":
        return ("item", "number") * max(1, len(words) // 2)
    return DEEDS.get(words[0], QUESTIONS.get(words[0]))


def read_line(line):
    """(words, kinds of those behind the first one); BadLine if the line has none of the forms."""
    if not isinstance(line, str):
        raise BadLine(line)
    words = line.split(" ")
    kinds = kinds_of(words)
    if kinds is None or not are_formed(words[1:], kinds):
        raise BadLine(line)
    if words[0] == "bears" and len(set(words[1::2])) < len(words[1::2]):
        raise BadLine(line)
    return words, kinds


def names_of(store, lot):
    """The names of the lot's houses."""
    return tuple([store.house_names[house] for house in lot])


def told_seat(hall, number):
    """The names of the houses of the seat of the ask of this number."""
    for held, _, seat in hall.asks:
        if held == number:
            return names_of(hall.store, seat)
    raise NoAsk(number)


def told_asks(hall):
    """The numbers of all asks that stand."""
    return tuple([ask[0] for ask in hall.asks])


def told_of_item(hall, item):
    """The numbers of the asks of this item that stand."""
    return tuple([ask[0] for ask in hall.asks if ask[1] == item])


def told_room(hall, item):
    """Whether there is room for an ask of this item, and how many would move."""
    word, many = hall.room(item)
    return "yes " + str(many) if word == "room" else "no"


def told_bears(hall, values):
    """Whether the store bears so many of these items: an item, how many, an item, how many, and so on."""
    rates = dict(zip(values[::2], values[1::2]))
    many = len(hall.store.item_names)
    told = borne(hall.store, tuple([(rates.get(item, 0), 1) for item in range(many)]))
    return "yes" if told[0] == "plan" else "no"


def answer_of(told):
    """What is told as a string."""
    if told is None:
        return "ok"
    if isinstance(told, tuple):
        return " ".join([str(part) for part in told]) if told else "."
    return str(told)


class Desk:
    """A desk with the hall of a journal."""

    def __init__(self, text):
        self.hall = read_journal(text)

    def say(self, line):
        """Does or looks up what the line says, and returns the answer."""
        words, kinds = read_line(line)
        values = read_words(self.hall.store, words[1:], kinds)
        if words[0] in DEEDS:
            return answer_of(deed_told(self.hall, words[0], values))
        return answer_of(self._looked_up(words[0], values))

    def _looked_up(self, word, values):
        """What the hall tells of a question."""
        hall = self.hall
        if word == "undo":
            return hall.undo()
        if word == "redo":
            return hall.redo()
        if word == "at":
            return told_seat(hall, values[0])
        if word == "asks":
            return told_asks(hall)
        if word == "of":
            return told_of_item(hall, values[0])
        if word == "down":
            return names_of(hall.store, hall.down)
        if word == "load":
            return hall.load(values[0])
        if word == "room":
            return told_room(hall, values[0])
        return told_bears(hall, values)
