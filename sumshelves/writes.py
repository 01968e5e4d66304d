"""Writes: whoever changes an item asks all houses that have it; reads and writes borne together."""

from sumshelves.checks import are_fractions, is_told, need_rates, need_same_items
from sumshelves.fracs import NOUGHT, ONE, common, divided, is_less, minus, multiplied, plus, reduced, scaled
from sumshelves.reaching import borne_or_barred
from sumshelves.shares import is_barring, is_out_told, out_asked, strengths_of, worth_of
from sumshelves.strains import (
    costs_of, is_borne_together, mixed_at, never_prices, plan_of_reads, strain_at, stretches_of, together, value_at,
    with_writes,
)


def need_both(store, reads, writes):
    """BadRates unless these are rates, the reads ahead."""
    need_rates(store, reads)
    need_rates(store, writes)


def borne_writes(store, reads, writes):
    """("plan", plan) of the reads borne together with the writes, ("prices", prices), or ("out", item)."""
    need_both(store, reads, writes)
    families = with_writes(store)
    item = out_asked(families, reads)
    if item is not None:
        return "out", item
    plan, prices = borne_or_barred(families, together(families, reads, writes), strengths_of(store))
    return ("prices", prices) if plan is None else ("plan", plan_of_reads(plan, len(reads)))


def shows_borne_writes(store, reads, writes, value):
    """Whether this value is such a result as borne_writes tells."""
    need_both(store, reads, writes)
    families, strengths = with_writes(store), strengths_of(store)
    rates = together(families, reads, writes)
    if is_told(value, "plan", 2):
        return is_borne_together(families, strengths, rates, value[1])
    if is_told(value, "prices", 2):
        return is_barring(families, strengths, rates, value[1])
    return is_out_told(families, reads, value)


def strain_line(store, reads, writes):
    """("line", corners, plans, prices) of the strain by the share, ("never", prices), or ("out", item)."""
    need_both(store, reads, writes)
    families, strengths = with_writes(store), strengths_of(store)
    item = out_asked(families, reads)
    if item is not None:
        return "out", item
    rates = together(families, reads, writes)
    prices = never_prices(families, strengths, rates)
    if prices is not None:
        return "never", prices
    rows = stretches_of(families, strengths, rates)
    shares = [NOUGHT] + [row[1] for row in rows]
    told = [strain_at(families, strengths, rates, share) for share in shares]
    corners = tuple([(share, row[0]) for share, row in zip(shares, told)])
    return "line", corners, tuple([row[1] for row in told]), tuple([row[0] for row in rows])


def shows_strain_line(store, reads, writes, value):
    """Whether this value is such a result as strain_line tells."""
    need_both(store, reads, writes)
    families, strengths = with_writes(store), strengths_of(store)
    rates = together(families, reads, writes)
    if is_told(value, "never", 2):
        return is_never(families, strengths, rates, value[1])
    if not is_told(value, "line", 4):
        return is_out_told(families, reads, value)
    _, corners, plans, prices = value
    if not are_corners(corners) or not isinstance(plans, tuple) or not isinstance(prices, tuple):
        return False
    if len(plans) != len(corners) or len(prices) != len(corners) - 1:
        return False
    for (share, strain), plan in zip(corners, plans):
        if not is_borne_together(families, scaled(strengths, strain), mixed_at(rates, share), plan):
            return False
    for at, row in enumerate(prices):
        if not is_stretch(families, strengths, rates, row, corners[at:at + 2]):
            return False
    return all([is_bend(corners[at:at + 3]) for at in range(len(corners) - 2)])


def is_never(families, strengths, rates, prices):
    """Whether these are prices of worth 0 at which reads or writes, of items that are not out, cost something."""
    return is_barring(families, strengths, rates, prices) and worth_of(strengths, prices) == NOUGHT


def are_corners(value):
    """Whether this is a tuple of (share, strain), fractions, the shares ascending from 0 to 1."""
    if not isinstance(value, tuple) or not all([are_fractions(corner, 2) for corner in value]):
        return False
    if not value or value[0][0] != NOUGHT or value[-1][0] != ONE:
        return False
    return all([is_less(corner[0], following[0]) for corner, following in zip(value, value[1:])])


def is_stretch(families, strengths, rates, prices, ends):
    """Whether these are prices, of worth 1 if there is strength, at which both ends cost just their strain."""
    if not are_fractions(prices, len(strengths)):
        return False
    worth = ONE if any([strength[0] > 0 for strength in strengths]) else NOUGHT
    if worth_of(strengths, prices) != worth:
        return False
    costs = costs_of(families, rates, prices)
    return all([value_at(costs, share) == strain for share, strain in ends])


def rise(corner, following):
    """How steeply it goes from one corner to the following one."""
    return divided(minus(following[1], corner[1]), minus(following[0], corner[0]))


def is_bend(corners):
    """Whether it bends at the middle one of three corners."""
    return rise(corners[0], corners[1]) != rise(corners[1], corners[2])


def better_shares(store, other, reads, writes):
    """("ranges", rows) of (from, to, word), or ("out", number, item) or ("never", number, prices) of one of both."""
    need_same_items(store, other)
    lines = []
    for number, asked in enumerate((store, other)):
        told = strain_line(asked, reads, writes)
        if told[0] != "line":
            return told[0], number, told[1]
        lines.append(told[1])
    shares = [corner[0] for corners in lines for corner in corners]
    tops, low = common(shares)
    places = [reduced(top, low) for top in sorted(set(tops))]
    gaps = [minus(strain_on(lines[0], share), strain_on(lines[1], share)) for share in places]
    rows = []
    for at in range(len(places) - 1):
        rows.extend(ranges_between(places[at:at + 2], gaps[at:at + 2]))
    return "ranges", merged(rows)


def strain_on(corners, share):
    """The strain at this share, by the corners of its line."""
    at = max([number for number, corner in enumerate(corners[:-1]) if not is_less(share, corner[0])])
    start, strain = corners[at]
    return plus(strain, multiplied(minus(share, start), rise(corners[at], corners[at + 1])))


def word_of(gaps):
    """The word for a stretch with these gaps at its ends, of which none is below 0 and another one above."""
    if all([gap[0] == 0 for gap in gaps]):
        return "like"
    return "more" if all([gap[0] >= 0 for gap in gaps]) else "less"


def ranges_between(ends, gaps):
    """The rows (from, to, word) of a stretch along which the gap goes straight from one to the other."""
    start, end = ends
    if gaps[0][0] * gaps[1][0] >= 0:
        return [(start, end, word_of(gaps))]
    by = divided(gaps[0], minus(gaps[0], gaps[1]))
    middle = plus(start, multiplied(minus(end, start), by))
    return [(start, middle, word_of(gaps[:1])), (middle, end, word_of(gaps[1:]))]


def merged(rows):
    """The tuple of these rows, neighbours with one word as one row."""
    found = []
    for start, end, word in rows:
        if found and found[-1][2] == word:
            start = found[-1][0]
            found = found[:-1]
        found = found + [(start, end, word)]
    return tuple(found)
