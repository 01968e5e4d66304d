"""Points and planes: where bounds on a few numbers from 0 on meet, and which of the bounds are needed.

A plane is a tuple of integers, one for each number and one behind them; a point too, the last one above 0: what all
others stand over. A point keeps a plane if both, taken together place by place, come to 0 or less, and is on it at 0.
"""

from itertools import combinations
from math import gcd


def primitive(numbers):
    """These integers, not all 0, without a common divisor."""
    by = 0
    for number in numbers:
        by = gcd(by, number)
    return tuple([number // by for number in numbers])


def determinant(rows):
    """The determinant of a square of integers."""
    if not rows:
        return 1
    come, sign = 0, 1
    for at, part in enumerate(rows[0]):
        if part != 0:
            come += sign * part * determinant([row[:at] + row[at + 1:] for row in rows[1:]])
        sign = -sign
    return come


def meeting(planes):
    """The only point on all of these planes, as many as a point has numbers; None if there is none or another one."""
    point, sign = [], 1
    for at in range(len(planes[0])):
        point.append(sign * determinant([plane[:at] + plane[at + 1:] for plane in planes]))
        sign = -sign
    if point[-1] == 0:
        return None
    if point[-1] < 0:
        point = [-part for part in point]
    return primitive(point)


def side_of(plane, point):
    """0 if the point is on the plane, less if it keeps it, more if it does not."""
    return sum([one * other for one, other in zip(plane, point)])


def keeps_all(planes, point):
    """Whether the point keeps all of these planes."""
    return all([side_of(plane, point) <= 0 for plane in planes])


def first_planes(many):
    """The planes that let no one of so many numbers be below 0."""
    return [tuple([-1 if at == number else 0 for at in range(many + 1)]) for number in range(many)]


def first_points(many):
    """The only corner of what keeps the first planes alone."""
    return [(0,) * many + (1,)]


def cut(points, planes, plane):
    """The corners of what keeps these planes, points, and one plane more."""
    kept = [point for point in points if side_of(plane, point) <= 0]
    for others in combinations(planes, len(plane[2:])):
        point = meeting([plane, *others])
        if point is not None and point not in kept and keeps_all(planes, point):
            kept.append(point)
    return kept


def corner_points(many, planes):
    """The corners of what keeps the first planes and these."""
    held, points = first_planes(many), first_points(many)
    for plane in planes:
        points = cut(points, held, plane)
        held = held + [plane]
    return points


def on_plane(plane, points):
    """The numbers of the points that are on the plane."""
    return [number for number, point in enumerate(points) if side_of(plane, point) == 0]


def is_among(one, other):
    """Whether each of one is among the other."""
    return all([part in other for part in one])


def needed(many, planes, points):
    """Those of these unlike planes that cannot be left out, where the points are the corners of what keeps them.

    What is kept goes out from 0 in all directions, so a plane is needed just if no other one has all its corners.
    """
    held = first_planes(many) + list(planes)
    rows = [on_plane(plane, points) for plane in held]
    found = []
    for at in range(many, len(held)):
        others = rows[:at] + rows[at + 1:]
        if not any([is_among(rows[at], other) for other in others]):
            found.append(held[at])
    return found
