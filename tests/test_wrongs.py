"""Section 2: each function's errors, of values of any kind, one or two wrong at once, by position and by names."""

import inspect
import itertools
import unittest

from sumshelves import (
    apart, beside, choosing, contents, errors, falls, heard, mending, offers, plans, region, whole, worths, writes,
)
from sumshelves.stores import Store
from tests.asking import HALF, NOUGHT, ONE, Asked, are_fractions, is_fraction, is_lot
from tests.plain import Plain, any_values, check_raises, number_below, raised, right_content
from tests.test_choosing import Case as Wishes
from tests.test_heard import is_signed
from tests.test_offers import right_offers, right_pieces

TEXT = "items a b c\nhouse p 2 a\nhouse q 2 b\nhouse r 1 a+b\nhouse s 3 c\nhouse t 1 a+b+c"
ASKED = Asked(TEXT)
RATES = (ONE, HALF, NOUGHT)


def numbers(value, most, many):
    return type(value) is tuple and len(value) == many and all(number_below(part, most + 1) for part in value)


def wrong_fractions():
    return [(2, 2), (0, 2), (1, 0), (1, -1), (-1, 1), (True, 1), (1, True), (False, 1), [1, 1], (1,), (1, 1, 1), 1, "1/1", (1, "1"), ((1, 1),)]


def small_weights(value):
    return type(value) is tuple and len(value) == 3 and all(type(part) is int and -9 <= part <= 9 for part in value)


def right_wish(value):
    return Wishes().is_wish(3, value)


def right_wishes(value):
    return type(value) is tuple and 1 <= len(value) <= 3 and all(right_wish(part) for part in value)


WISHES = [("bears", (ONE, ONE)), ("bears", [ONE, ONE, ONE]), ("stands", RATES, 3), ("stands", RATES), ("had", 3, 0), ("had", 0, 8), ("had", True, 0), ("any", 3), ("any", True),
          ["any", 1]]


def wrong_rows(many):
    """Tuples of as many parts, and of others, that are no fractions."""
    rows = [tuple([ONE] * (many - 1)), tuple([ONE] * (many + 1)), [ONE] * many, tuple([1] * many), (), {ONE: ONE}, ((ONE,) * many,)]
    return rows + [tuple([ONE] * (many - 1) + [part]) for part in wrong_fractions()] + [tuple([part] + [ONE] * (many - 1)) for part in wrong_fractions()]


# For each kind: its error, a right value, whether any value is right, and wrong values beside those of all kinds.
KINDS = {
    "item": (errors.BadItem, 0, lambda value: number_below(value, 3), [3, -3, "a", [0]]),
    "house": (errors.BadHouse, 1, lambda value: number_below(value, 5), [5, -5, "q", [1]]),
    "beside": (errors.BadHouse, 2, lambda value: number_below(value, 5), [5, -5, "q", [2]]),
    "rates": (errors.BadRates, RATES, lambda value: are_fractions(value, 3), wrong_rows(3)),
    "prices": (errors.BadPrices, (ONE, ONE, ONE, HALF, NOUGHT), lambda value: are_fractions(value, 5), wrong_rows(5)),
    "rate": (errors.BadFraction, HALF, is_fraction, wrong_fractions()),
    "plan": (errors.BadPlan, ((0, (0,), ONE), (1, (1,), HALF)), ASKED.is_plan, [
        ((0, (0,), ONE), (0, (0,), HALF)), ((1, (1,), ONE), (0, (0,), ONE)), ((0, (1,), ONE),), ((0, (0,), NOUGHT),), [(0, (0,), ONE)]]),
    "content": (errors.BadContent, "110", lambda value: right_content(value, 3), ["1100", "11", "112", ("1", "1", "0"), 110]),
    "weights": (errors.BadWeights, (1, 1, 0), lambda value: numbers(value, 999, 3) and any(value), [
        (0, 0, 0), (1, 1), (1, 1, 1000), (1, -1, 0), (True, 1, 0), [1, 1, 0], (ONE, ONE, NOUGHT), (1, 1, 0, 0)]),
    "number": (errors.BadNumber, 4, lambda value: number_below(value, 10000), [10000, -1, 4.5, "4"]),
    "falls": (errors.BadNumber, 1, lambda value: number_below(value, 6), [6, -1, "1", (1,)]),
    "many": (errors.BadNumber, 2, lambda value: number_below(value, 7), [7, -1, "1", (1,)]),
    "asks": (errors.BadAsks, (1, 1, 0), lambda value: numbers(value, 9, 3) and sum(value) <= 12, [
        (9, 4, 0), (10, 0, 0), (-1, 1, 1), (True, 0, 0), [1, 1, 0], (1, 1), (1, 1, 0, 0), RATES]),
    "tolls": (errors.BadTolls, (1, 2, 0, 9, 1), lambda value: numbers(value, 9, 5), [
        (10, 0, 0, 0, 0), (1, 2, 0, 9), (-1, 0, 0, 0, 0), (True, 0, 0, 0, 0), [1, 2, 0, 9, 1]]),
    "out": (errors.BadLot, (0,), lambda value: is_lot(value, 5) and 2 not in value, [(5,), (1, 0), [0], (True,)]),
    "free": (errors.BadLot, (2,), lambda value: is_lot(value, 5) and 0 not in value, [(5,), (0,), (2, 0), [2], (0, 1, 2, 3, 4)]),
}

# Those of parameters that are called alike elsewhere, by their modules.
OTHERS = {
    (falls, "many"): "falls", (heard, "weights"): "small_weights", (heard, "number"): "signed",
}
KINDS.update({
    "reads": (errors.BadRates, RATES, lambda value: are_fractions(value, 3), wrong_rows(3)),
    "writes": (errors.BadRates, (HALF, ONE, ONE), lambda value: are_fractions(value, 3), wrong_rows(3)),
    "counts": (errors.BadCounts, (ONE, ONE, ONE, HALF, NOUGHT), lambda value: are_fractions(value, 5), wrong_rows(5)),
    "small_weights": (errors.BadWeights, (1, -9, 0), small_weights, [(10, 0, 0), (0, -10, 0), (1, 1), [1, 1, 1], (True, 0, 0), (ONE, ONE, ONE)]),
    "signed": (errors.BadFraction, (-3, 2), is_signed, [part for part in wrong_fractions() if not is_signed(part)] + [(-2, 2), (0, -1), (-1, -1)]),
    "lot": (errors.BadLot, (0, 3), lambda value: is_lot(value, 5), [(5,), (1, 0), [0], (True,), (0, 0)]),
    # Pieces of which other sums can be made are another error.
    "pieces": (errors.BadPieces, ((1,),), lambda value: right_pieces(value, 3), [((3,),), ((1, 0),), ((0,), (0,)), [(1,)], ((0,), (1,), (2,))]),
    "offers": (errors.BadOffers, (("piece", 0, (1,), 3), ("strength", 1, 5, 2)), lambda value: right_offers(Plain(TEXT), value), [
        (("piece", 0, (0,), 3),), (("strength", 1, 2, 2),), (("strength", 1, 5, 2), ("piece", 0, (1,), 3)), [("strength", 1, 5, 2)],
        (("without", 1, 0, 2),), (("strength", 1, 5, 2), ("strength", 1, 5, 3)), (("strength", 1, 5, 100),)]),
    "choice": (errors.BadChoice, (0, 1), lambda value: is_lot(value, 2), [(2,), (1, 0), [0], (True,), (0, 0)]),
    "wish": (errors.BadWish, ("stands", RATES, 1), right_wish, WISHES),
    "wishes": (errors.BadWishes, (("had", 0, 1), ("any", 2)), right_wishes, [(wish,) for wish in WISHES] + WISHES + [(("any", 1),) * 4, [("any", 1)]]),
})

# For each function its parameters behind the store, and the kinds of those that are called otherwise.
FUNCTIONS = {
    plans: ["cheapest_lot item prices", "house_loads plan", "cost_and_worth rates prices", "bears rates plan", "borne rates",
            "shows_borne rates value", "greatest item", "shows_greatest item value", "greatest_times rates",
            "shows_greatest_times rates value", "slack rates house", "shows_slack rates house value"],
    contents: ["content_side content", "barring_content rates", "content_times rates", "told_by_contents rates",
               "shows_told_by_contents rates value"],
    region: ["sides", "corners", "edges", "broken_side rates", "why_side weights number", "shows_why_side weights number value",
             "direction weights", "shows_direction weights value", "mixed rates", "shows_mixed rates value",
             "greatest_beside item rates", "held_sides item rate"],
    whole: ["whole_plan asks", "shows_whole_plan asks value", "most_of item", "shows_most_of item value", "any_asks many",
            "shows_any_asks many value", "most_any"],
    apart: ["packed item", "shows_packed item value", "losing_packed item tolls", "shows_losing_packed item tolls value",
            "left_lots item out free", "apart_always item", "shows_apart_always item value", "losing_always item",
            "shows_losing_always item value"],
    falls: ["behind_falls rates many", "shows_behind_falls rates many value", "breaking_lots rates", "bearing_lots rates",
            "most_falls rates", "greatest_behind rates many", "shows_greatest_behind rates many value"],
    mending: ["helping_lots house", "greatest_mending house rates", "shows_greatest_mending house rates value"],
    worths: ["worth_line rates house", "shows_worth_line rates house value", "house_worth rates house",
             "two_worths rates house beside", "wanted rates"],
    writes: ["borne_writes reads writes", "shows_borne_writes reads writes value", "strain_line reads writes",
             "shows_strain_line reads writes value"],
    beside: ["needless_pieces", "in_other_words house pieces"],
    heard: ["heard_plan counts", "shows_heard_plan counts value", "heard_range counts item", "shows_heard_range counts item value",
            "heard_sure counts weights number", "shows_heard_sure counts weights number value", "settling lot weights",
            "shows_settling lot weights value", "settling_lots weights", "settled_sums lot", "wrong_counts counts",
            "shows_wrong_counts counts value"],
    offers: ["choices offers", "chosen offers choice"],
    choosing: ["comes_true wish", "shows_comes_true wish value", "cheapest offers wishes", "shows_cheapest offers wishes value"],
}


def rows():
    """(function, names of its parameters behind the store, their kinds) for each function."""
    for module, lines in FUNCTIONS.items():
        for line in lines:
            name, *parameters = line.split(" ")
            kinds = [OTHERS.get((module, kind), kind) for kind in parameters]
            yield getattr(module, name), parameters, kinds


def wrong_values(kind):
    _, _, is_right, more = KINDS[kind]
    return [value for value in any_values() + more if not is_right(value)]


class Wrongs(unittest.TestCase):
    def setUp(self):
        self.store = Store(TEXT)

    def tearDown(self):
        self.assertEqual(vars(self.store), vars(Store(TEXT)))

    def right(self, kinds):
        return [None if kind == "value" else KINDS[kind][1] for kind in kinds]

    def test_parameters(self):
        for function, parameters, _ in rows():
            self.assertEqual(list(inspect.signature(function).parameters), ["store"] + parameters)

    def test_right_values_raise_nothing(self):
        for function, parameters, kinds in rows():
            values = self.right(kinds)
            self.assertIs(raised(function, self.store, *values), None, function)
            one = function(self.store, *values)
            other = function(**dict(zip(parameters[::-1], values[::-1])), store=Store(TEXT))
            self.assertEqual(one, other)
            if function.__name__.startswith("shows_"):
                self.assertIs(one, False)

    def test_one_wrong(self):
        for function, parameters, kinds in rows():
            for at, kind in enumerate(kinds):
                if kind == "value":
                    continue
                for value in wrong_values(kind):
                    values = self.right(kinds)
                    values[at] = value
                    check_raises(self, KINDS[kind][0], value, function, self.store, *values)
                    named = dict(zip(parameters, values))
                    check_raises(self, KINDS[kind][0], value, lambda: function(**named, store=self.store))

    def test_two_wrong(self):
        for function, _, kinds in rows():
            given = [at for at, kind in enumerate(kinds) if kind != "value"]
            for one, other in itertools.combinations(given, 2):
                pairs = itertools.product(wrong_values(kinds[one])[::7], wrong_values(kinds[other])[::9])
                for value, also in pairs:
                    values = self.right(kinds)
                    values[one], values[other] = value, also
                    check_raises(self, KINDS[kinds[one]][0], value, function, self.store, *values)

    def test_any_value_is_looked_at_alone(self):
        # Whatever is handed in as a value, no error comes of it, and those of the other arguments stay.
        for function, _, kinds in rows():
            if not function.__name__.startswith("shows_"):
                continue
            told = getattr(inspect.getmodule(function), function.__name__[6:])(self.store, *self.right(kinds)[:-1])
            for value in any_values():
                for shown in (value, (told[0], value), told[:-1] + (value,), (value,) + told[1:], told + (value,), [told, value]):
                    self.assertIn(function(self.store, *self.right(kinds)[:-1], shown), (True, False))
            self.assertIs(function(self.store, *self.right(kinds)[:-1], told), True)
            values = self.right(kinds)
            values[0] = None
            check_raises(self, KINDS[kinds[0]][0], None, function, self.store, *values[:-1], told)

    def test_nothing_handed_in_is_changed(self):
        for function, _, kinds in rows():
            for at, kind in enumerate(kinds):
                for value in ([ONE, [HALF]], {"a": [0, {1: [2]}]}, ([0], [[1]])):
                    kept = repr(value)
                    values = self.right(kinds)
                    values[at] = value
                    raised(function, self.store, *values)
                    self.assertEqual(repr(value), kept)


if __name__ == "__main__":
    unittest.main()
