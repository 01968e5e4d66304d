"""Rates, plans and prices, worked out plainly beside the program, with Python's own fractions."""

import functools
import itertools
import math
import random
from fractions import Fraction

from tests.plain import LETTERS, Plain, alike, any_values, made_text, near, number_below

NOUGHT, HALF, ONE = (0, 1), (1, 2), (1, 1)


def told(number):
    """A number as the program tells fractions."""
    number = Fraction(number)
    return number.numerator, number.denominator


def read(fraction):
    """A fraction as the program tells it, as a number."""
    return Fraction(*fraction)


def is_fraction(value):
    if type(value) is not tuple or len(value) != 2 or any(type(part) is not int for part in value):
        return False
    return value[0] >= 0 and value[1] >= 1 and math.gcd(*value) == 1


def are_fractions(value, many):
    return type(value) is tuple and len(value) == many and all(is_fraction(part) for part in value)


def is_lot(value, many):
    return type(value) is tuple and all(number_below(part, many) for part in value) and list(value) == sorted(set(value))


def shown(value, word, many):
    return type(value) is tuple and len(value) == many and type(value[0]) is str and value[0] == word


def times_rates(rates, times):
    return tuple(told(read(rate) * read(times)) for rate in rates)


@functools.lru_cache(maxsize=None)
def families_of(text):
    """For each item its least lots."""
    plain = Plain(text)
    return tuple(plain.least(item) for item in range(len(plain.items)))


class Asked:
    """What is asked of a store; strengths may be others than those of its text, families too."""

    def __init__(self, text, strengths=None, families=None):
        self.text = text
        plain = Plain(text)
        self.plain = plain
        self.items, self.houses = len(plain.items), len(plain.houses)
        self.strengths = [Fraction(number) for number in (plain.strengths if strengths is None else strengths)]
        self.families = families_of(text) if families is None else families

    def with_strength(self, house, strength):
        strengths = list(self.strengths)
        strengths[house] = Fraction(strength)
        return Asked(self.text, strengths, self.families)

    def behind(self, lot):
        """The same with strengths 0 on these houses."""
        strengths = [0 if house in lot else number for house, number in enumerate(self.strengths)]
        return Asked(self.text, strengths, self.families)

    def out(self, rates):
        return next((k for k, rate in enumerate(rates) if rate[0] > 0 and not self.families[k]), None)

    def is_out(self, rates, value):
        return self.out(rates) is not None and alike(value, ("out", self.out(rates)))

    def is_plan(self, value):
        if type(value) is not tuple:
            return False
        for row in value:
            if type(row) is not tuple or len(row) != 3 or not number_below(row[0], len(self.families)):
                return False
            if not any(alike(row[1], lot) for lot in self.families[row[0]]) or not is_fraction(row[2]) or row[2][0] == 0:
                return False
        spots = [row[:2] for row in value]
        return list(value) == sorted(value) and len(set(spots)) == len(spots)

    def sums(self, plan):
        return [sum((read(share) for at, _, share in plan if at == item), Fraction(0)) for item in range(len(self.families))]

    def loads(self, plan):
        return [sum((read(share) for _, lot, share in plan if house in lot), Fraction(0)) for house in range(self.houses)]

    def bears(self, rates, value):
        """Whether this is a plan that bears the rates."""
        if not self.is_plan(value) or self.sums(value) != [read(rate) for rate in rates]:
            return False
        return all(load <= strength for load, strength in zip(self.loads(value), self.strengths))

    def price(self, family, prices):
        return min(sum((read(prices[house]) for house in lot), Fraction(0)) for lot in family)

    def cost(self, rates, prices):
        return sum((read(rate) * self.price(family, prices) for rate, family in zip(rates, self.families) if family), Fraction(0))

    def worth(self, prices):
        return sum((strength * read(price) for strength, price in zip(self.strengths, prices)), Fraction(0))

    def are_prices(self, value):
        return are_fractions(value, self.houses)

    def bars(self, rates, value):
        """Whether these are prices that bar the rates."""
        return self.out(rates) is None and self.are_prices(value) and self.cost(rates, value) > self.worth(value)

    def even(self, rates, value, worth):
        """Whether these are prices at which the rates cost 1, and which are worth so much."""
        if self.out(rates) is not None or not self.are_prices(value):
            return False
        return self.cost(rates, value) == 1 and self.worth(value) == worth

    def right_borne(self, rates, value):
        if shown(value, "plan", 2):
            return self.bears(rates, value[1])
        return self.right_unborne(rates, value)

    def right_unborne(self, rates, value):
        if shown(value, "prices", 2):
            return self.bars(rates, value[1])
        return self.is_out(rates, value)

    def right_times(self, rates, value, word="times"):
        if not shown(value, word, 4):
            return self.is_out(rates, value)
        _, times, plan, prices = value
        if not is_fraction(times) or not self.bears(times_rates(rates, times), plan):
            return False
        return self.even(rates, prices, read(times))

    def alone(self, item, rate=ONE):
        return tuple(rate if other == item else NOUGHT for other in range(self.items))


def made(names, rows):
    """A store's text of (strength, words) for each house."""
    lines = ["items " + " ".join(names)]
    return "\n".join(lines + [f"house h{LETTERS[at]} {strength} {words}" for at, (strength, words) in enumerate(rows)])


def sums_text(chance, sizes, items, houses):
    """A store of sums of so many items each."""
    names = LETTERS[:items]
    rows = []
    for _ in range(houses):
        size = min(items, chance.choice(sizes))
        rows.append((chance.randint(0, 9), "+".join(sorted(chance.sample(names, size)))))
    return made(names, rows)


def texts_of_kinds(seed, most_items=4, most_houses=8, often=2):
    """Stores of copies, of a sum of all, of sums of two and three, of any pieces, two in a house, some items out or dead."""
    chance = random.Random(seed)
    texts = []
    for _ in range(often):
        for items in range(1, most_items + 1):
            houses = chance.randint(max(2, items), max(2, items, most_houses))
            names = LETTERS[:items]
            texts.append(made(names, [(chance.randint(0, 9), chance.choice(names)) for _ in range(houses)]))
            singles = [(chance.randint(1, 4), name) for name in names]
            texts.append(made(names, (singles + [(chance.randint(1, 9), "+".join(names))] * 2)[:most_houses]))
            texts.append(sums_text(chance, [1, 2], items, houses))
            texts.append(sums_text(chance, [2, 3], items, houses))
            texts.append(made_text(chance, items, houses, 1))
            texts.append(made_text(chance, items, chance.randint(2, most_houses), 2))
            texts.append(made(names, [(0, name) for name in names[:most_houses - 2]] + [(9, names[0]), (9, "+".join(names))]))
            weak = made_text(chance, items, houses, 2).split("\n")
            texts.append("\n".join(weak[:1] + [" ".join(line.split(" ")[:2] + ["1"] + line.split(" ")[3:]) for line in weak[1:]]))
    return texts


def made_rates(chance, many, most=4, low=3):
    """Rates of so many items: 0, whole, and others."""
    return tuple(chance.choice([NOUGHT, told(chance.randint(0, most)), told(Fraction(chance.randint(0, most * low), low))])
                 for _ in range(many))


def some_rates(chance, asked, most=4):
    """Rates, not all 0, of items that are not out; None if all are."""
    live = [item for item in range(asked.items) if asked.families[item]]
    if not live:
        return None
    while True:
        rates = made_rates(chance, asked.items, most)
        rates = tuple(rate if item in live else NOUGHT for item, rate in enumerate(rates))
        if any(rate[0] for rate in rates):
            return rates


def near_values(value, chance=None, most=400):
    """Values near this one, and any values; of many only some."""
    values = list(near(value))
    if chance is not None and len(values) > most:
        values = chance.sample(values, most)
    return values + any_values()


def check_shown(case, shows, args, value, right, chance=None, most=400):
    """That a value is shown, and of values near it just those that are right."""
    case.assertIs(shows(*args, value), True, (args[1:], value))
    case.assertTrue(right(value), (args[1:], value))
    for other in near_values(value, chance, most):
        case.assertIs(shows(*args, other), right(other), (args[1:], value, other))


def placings(families, strengths, asks):
    """All ways to place whole asks, as rows (item, lot, many), by going through all of them."""
    spots = [(item, lot) for item, family in enumerate(families) for lot in family]
    found = []

    def go(at, left, house_left, rows):
        if at == len(spots):
            if not any(left):
                found.append(tuple(sorted(rows)))
            return
        item, lot = spots[at]
        for many in range(min([left[item]] + [house_left[house] for house in lot]) + 1):
            fewer = [number - many if other == item else number for other, number in enumerate(left)]
            rest = [number - many if house in lot else number for house, number in enumerate(house_left)]
            go(at + 1, fewer, rest, rows + ([(item, lot, many)] if many else []))

    go(0, list(asks), list(strengths), [])
    return found


def all_lots(many, sizes=None):
    sizes = range(many + 1) if sizes is None else sizes
    return [lot for size in sizes for lot in itertools.combinations(range(many), size)]
