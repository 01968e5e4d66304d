"""Seats of asks in a hall: whom a new one or a fall moves, and who is lost.

A row is (seat, lots): how an ask sits, None if it has no seat yet, and the lots at which it may sit, as Python sorts
them. Left is what is left of each house. Asks without a seat do not move when they get one.
"""

from itertools import combinations


def has_room(left, lot):
    """Whether each of the lot's houses has something left."""
    return all([left[house] > 0 for house in lot])


def taken(left, lot):
    """What is left behind an ask at this lot."""
    return tuple([number - 1 if house in lot else number for house, number in enumerate(left)])


def seats_from(rows, left, most, failed):
    """The first seats for these rows with so many moves at most; None if there are none.

    Failed keeps what was asked for and has none.
    """
    if not rows:
        return ()
    place = (len(rows), left, most)
    if place in failed:
        return None
    seat, lots = rows[0]
    for lot in lots:
        fewer = most if seat is None or lot == seat else most - 1
        if fewer >= 0 and has_room(left, lot):
            others = seats_from(rows[1:], taken(left, lot), fewer, failed)
            if others is not None:
                return (lot,) + others
    failed[place] = True
    return None


def first_seats(rows, left, most):
    """The first seats for these rows with so many moves at most; None if there are none."""
    return seats_from(rows, left, most, {})


def count_moves(rows, seats):
    """How many of the rows have another seat than they had."""
    return len([seat for (held, _), seat in zip(rows, seats) if held is not None and held != seat])


def least_moved(rows, left):
    """The first seats for these rows with the fewest moves, where there are some."""
    found, most = first_seats(rows, left, 0), 0
    while found is None:
        most += 1
        found = first_seats(rows, left, most)
    return found


def without(rows, lost):
    """The rows but those with these numbers."""
    return [row for at, row in enumerate(rows) if at not in lost]


def first_lost(rows, left):
    """(lost, seats): the fewest rows to lose, with the fewest moves of the others, the first of these."""
    for many in range(len(rows) + 1):
        choices = []
        for lost in combinations(range(len(rows)), many):
            if first_seats(without(rows, lost), left, len(rows)) is not None:
                choices.append(lost)
        if choices:
            return first_moved(rows, left, choices)
    return None


def first_moved(rows, left, choices):
    """(lost, seats): the first of these choices of rows to lose by which the fewest of the others move.

    For each of the choices the others have seats.
    """
    for most in range(len(rows) + 1):
        for lost in choices:
            seats = first_seats(without(rows, lost), left, most)
            if seats is not None:
                return lost, seats
    return None
