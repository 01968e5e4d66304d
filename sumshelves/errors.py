"""All errors of Sumshelves: each keeps as value what it was created with."""


class SumError(ValueError):
    """What all errors have in common."""

    def __init__(self, value):
        self.value = value


class BadItem(SumError):
    """No number of an item of the store, or no name of one."""


class BadHouse(SumError):
    """No number of a house of the store, or no name of one."""


class BadLot(SumError):
    """No lot: no ascending tuple of numbers of houses."""


class BadFamily(SumError):
    """No family: no tuple of lots, those of fewer houses ahead."""


class BadFraction(SumError):
    """No fraction in lowest terms."""


class BadRates(SumError):
    """No rates: no tuple with a fraction for each item."""


class BadPrices(SumError):
    """No prices: no tuple with a fraction for each house."""


class BadNumber(SumError):
    """No integer as it is asked for."""


class BadStore(SumError):
    """A text of no store, by the number of the line."""


class BadPiece(SumError):
    """No piece: no ascending tuple of numbers of items."""


class BadContent(SumError):
    """No content: no string of a 0 or 1 for each item."""


class BadName(SumError):
    """No name that is free for a house."""


class BadStrength(SumError):
    """No integer from 0 to 9."""


class BadPieces(SumError):
    """No tuple of one or two unlike pieces."""


class Full(SumError):
    """As many as can be are there."""


class Few(SumError):
    """No fewer than these can be."""


class Held(SumError):
    """It is there already."""


class Many(SumError):
    """A house has as many pieces as can be."""


class NoPiece(SumError):
    """No number of a piece of the house."""


class Bare(SumError):
    """A house's only piece cannot go."""


class Called(SumError):
    """Two are called alike."""


class Out(SumError):
    """An item that is had of no lot."""


class BadPlan(SumError):
    """No plan for the store."""


class NoRates(SumError):
    """All rates are 0."""


class Wide(SumError):
    """More items or houses than are worked out."""


class BadWeights(SumError):
    """No weights of the items."""


class Unborne(SumError):
    """Rates that are not borne, by the side that they break."""


class BadAsks(SumError):
    """No asks that come at once."""


class TwoPieces(SumError):
    """A house has two pieces where each has to have one."""


class BadTolls(SumError):
    """No tolls of the houses."""


class NotBorne(SumError):
    """Rates that are not borne, by what shows it."""


class NoHelp(SumError):
    """A house that no lot of others makes anew."""


class Same(SumError):
    """One house stands where two are asked for."""


class OtherItems(SumError):
    """A store whose items are called otherwise."""


class OtherShape(SumError):
    """A store whose items or houses are called otherwise."""


class OtherSpan(SumError):
    """Pieces of which other sums can be made."""


class BadCounts(SumError):
    """No counts of the houses."""


class Quarrel(SumError):
    """Counts that no plan fits."""


class BadOffers(SumError):
    """No offers that fit the store."""


class BadChoice(SumError):
    """No choice that counts."""


class BadWish(SumError):
    """No wish for the store."""


class BadWishes(SumError):
    """No tuple of one to three wishes."""


class NoAsk(SumError):
    """No number of an ask that stands."""


class Down(SumError):
    """A house that is down already."""


class Up(SumError):
    """A house that is up already."""


class Refused(SumError):
    """An ask for which there is no seat, by what shows it."""


class NothingToUndo(SumError):
    """No deed stands that could be taken back."""


class NothingToRedo(SumError):
    """No deed was taken back that could be done again."""


class NoTrial(SumError):
    """No trial is open."""


class BadJournal(SumError):
    """A text of no journal, by the number of the line."""


class BadLine(SumError):
    """No line that a desk understands."""
