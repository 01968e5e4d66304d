"""Rows of integers brought into steps, and what comes to nothing by each of them."""

from math import lcm

from sumshelves.faces import primitive


def place_of(row):
    """Where the row's first number stands that is not 0; None if all are 0."""
    for at, part in enumerate(row):
        if part != 0:
            return at
    return None


def cleared(row, leads):
    """The row, so many times and less so many times the leads that it has 0 where each of them begins."""
    for lead in leads:
        at = place_of(lead)
        if row[at] != 0:
            row = [part * lead[at] - row[at] * other for part, other in zip(row, lead)]
    return row


def started(row):
    """The row without a common divisor, its first number that is not 0 above 0."""
    row = list(primitive(row))
    return [-part for part in row] if row[place_of(row)] < 0 else row


def stepped(rows):
    """The list of the rows in steps that tell the same sums as these.

    Each row's first number that is not 0 is above 0, and stands where all other rows have 0, farther on than that of
    the row ahead; a row's numbers have no common divisor.
    """
    held = []
    for row in rows:
        row = cleared(row, held)
        if place_of(row) is not None:
            row = started(row)
            held = [started(cleared(lead, [row])) for lead in held] + [row]
    return sorted(held, key=place_of)


def free_rows(rows, many):
    """Rows of so many numbers that come to 0 with each of these, place by place, and of which all such are sums."""
    held = stepped(rows)
    places = [place_of(row) for row in held]
    by = 1
    for row, place in zip(held, places):
        by = lcm(by, row[place])
    found = []
    for at in range(many):
        if at not in places:
            parts = {place: -row[at] * by // row[place] for row, place in zip(held, places)}
            parts[at] = by
            found.append([parts.get(place, 0) for place in range(many)])
    return found
