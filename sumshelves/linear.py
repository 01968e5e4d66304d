"""The greatest sum of gains under limits, reckoned in integers alone."""


def start_rows(columns, limits, gains):
    """A row for each limit: the columns, a column for what is left of each limit, the limit; behind them the gains."""
    many = len(limits)
    rows = []
    for at in range(many):
        lefts = [0] * many
        lefts[at] = 1
        rows.append([column[at] for column in columns] + lefts + [limits[at]])
    rows.append([-gain for gain in gains] + [0] * (many + 1))
    return rows


def entering(gains):
    """The column that gains most by itself; None if none gains."""
    least = min(gains[:-1])
    return gains.index(least) if least < 0 else None


def is_sooner(row, other, column, order):
    """Whether this row stops the column's growth ahead of the other one; ties are parted by the columns of lefts."""
    for at in order:
        gap = row[at] * other[column] - other[at] * row[column]
        if gap != 0:
            return gap < 0
    return False


def leaving(rows, column, order):
    """The number of the row that stops the column's growth first."""
    found = None
    for at, row in enumerate(rows[:-1]):
        if row[column] > 0 and (found is None or is_sooner(row, rows[found], column, order)):
            found = at
    return found


def swept(row, lead, column, low):
    """The row without the column, over the lead's part of it as the new common low."""
    top, part = lead[column], row[column]
    if part == 0:
        return [one * top // low for one in row]
    return [(one * top - part * other) // low for one, other in zip(row, lead)]


def best(columns, limits, gains):
    """(parts, prices, low): how much of each column, all over low, gives the greatest sum of gains.

    Each column has a number for each limit, and parts times columns keep to the limits, which are 0 or more.
    By the prices, over low, too, each column costs at least its gain, and the limits cost what the parts gain.
    """
    many = len(columns)
    rows = start_rows(columns, limits, gains)
    order = [-1] + list(range(many, many + len(limits)))
    basis = list(range(many, many + len(limits)))
    low = 1
    column = entering(rows[-1])
    while column is not None:
        # All numbers stay whole: each is a minor of the first rows, and low is the one that divides them.
        at = leaving(rows, column, order)
        lead = rows[at]
        rows = [lead if k == at else swept(row, lead, column, low) for k, row in enumerate(rows)]
        low = lead[column]
        basis[at] = column
        column = entering(rows[-1])
    parts = [0] * many
    for at, held in enumerate(basis):
        if held < many:
            parts[held] = rows[at][-1]
    return parts, rows[-1][many:-1], low
