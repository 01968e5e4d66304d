"""The shape of a region: its sides and corners, found by asking for corners that may not be borne."""

from sumshelves.faces import corner_points, cut, first_planes, first_points, needed, primitive
from sumshelves.fracs import NOUGHT, ONE, common, reduced, total
from sumshelves.reaching import borne_or_barred, reach
from sumshelves.shares import cheapest, strengths_of, worth_of


def live_items(families, strengths):
    """The items of which some lot has houses with strengths above 0 alone."""
    live = []
    for item, family in enumerate(families):
        if any([all([strengths[house][0] > 0 for house in lot]) for lot in family]):
            live.append(item)
    return live


def spread(live, parts, none, many):
    """The tuple of these parts at the places of the live items, and none at all others."""
    row = [none] * many
    for item, part in zip(live, parts):
        row[item] = part
    return tuple(row)


def rates_at(live, point, many):
    """The rates that a point tells of the live items; 0 of all others."""
    return spread(live, [reduced(part, point[-1]) for part in point[:-1]], NOUGHT, many)


def plane_of(families, strengths, live, prices):
    """The plane that all borne rates of the live items keep by these prices."""
    weights = [cheapest(families[item], prices) for item in live]
    tops, _ = common(weights + [worth_of(strengths, prices)])
    return primitive(tops[:-1] + [-tops[-1]])


def is_below_one(point, others):
    """Whether no number of the point is above that of some one of the others."""
    for other in others:
        if all([part * other[-1] <= most * point[-1] for part, most in zip(point, other)]):
            return True
    return False


def count_above(point):
    """How many numbers of the point are above 0."""
    return len([part for part in point if part > 0])


def planes_alone(families, strengths, live):
    """Planes, unlike ones, that let of no live item more than can be borne of it alone."""
    planes = []
    for item in live:
        alone = spread([item], [ONE], NOUGHT, len(families))
        plane = plane_of(families, strengths, live, reach(families, alone, strengths)[2])
        if plane not in planes:
            planes.append(plane)
    return planes


def found_shape(families, strengths, live):
    """(planes, points): planes that just the borne rates of the live items keep, and their corners."""
    many = len(families)
    planes = planes_alone(families, strengths, live)
    points = corner_points(len(live), planes)
    proved = first_points(len(live))
    waiting = points
    while waiting:
        # What is borne shows all below it, so the points that ask most come first.
        point = max(waiting, key=count_above)
        _, prices = borne_or_barred(families, rates_at(live, point, many), strengths)
        if prices is None:
            proved.append(point)
        else:
            plane = plane_of(families, strengths, live, prices)
            points = cut(points, first_planes(len(live)) + planes, plane)
            planes = planes + [plane]
        waiting = [point for point in points if not is_below_one(point, proved)]
    return planes, points


def bounds_of(live, planes, many):
    """The ascending tuple of bounds on all items: these planes, and for each item that is not live that it is 0."""
    bounds = [(spread(live, plane[:-1], 0, many), -plane[-1]) for plane in planes]
    dead = [(spread([item], [1], 0, many), 0) for item in range(many) if item not in live]
    return tuple(sorted(bounds + dead))


def region_of(store, families):
    """(sides, corners) of the store's region."""
    strengths, many = strengths_of(store), len(families)
    live = live_items(families, strengths)
    planes, points = found_shape(families, strengths, live)
    sides = bounds_of(live, needed(len(live), planes, points), many)
    return sides, tuple(sorted([rates_at(live, point, many) for point in points]))


def shortest(bounds, many):
    """The shortest list of bounds on so many items that tells the same as these, which bound each item."""
    dead = [item for item in range(many) if any([bound[0][item] > 0 and bound[1] == 0 for bound in bounds])]
    live = [item for item in range(many) if item not in dead]
    planes = []
    for weights, number in bounds:
        row = [weights[item] for item in live]
        if any([weight > 0 for weight in row]) and primitive(row + [-number]) not in planes:
            planes.append(primitive(row + [-number]))
    points = corner_points(len(live), planes)
    return bounds_of(live, needed(len(live), planes, points), many)


def weighed(weights, rates):
    """The sum of whole weights times rates."""
    return total([reduced(weight * rate[0], rate[1]) for weight, rate in zip(weights, rates)])
