"""Contents as the plainest prices: what is awake bounds what can be asked."""

from sumshelves.checks import is_content, is_told, need_content, need_rates, need_some_rates
from sumshelves.fracs import divided, is_less, scaled, total, whole
from sumshelves.lots import all_contents, awake
from sumshelves.plans import greatest_times, is_reach
from sumshelves.shares import families_of, is_bearing, is_out_told, out_asked, strengths_of


def bound_of(store, content):
    """The sum of the strengths of the houses that the content wakes."""
    return sum([store.strengths[house] for house in awake(store, content)])


def asked_by(rates, content):
    """The sum of the rates for which the content asks."""
    return total([rate for rate, sign in zip(rates, content) if sign == "1"])


def content_side(store, content):
    """(items, houses, bound) of a content."""
    need_content(store, content)
    items = tuple([item for item, sign in enumerate(content) if sign == "1"])
    return items, awake(store, content), bound_of(store, content)


def barring_content(store, rates):
    """The first content that bars the rates; None if none does."""
    need_rates(store, rates)
    for content in all_contents(len(rates)):
        if is_less(whole(bound_of(store, content)), asked_by(rates, content)):
            return content
    return None


def content_times(store, rates):
    """(times, content): the least bound by the sum of the rates, and the first content that has it."""
    need_some_rates(store, rates)
    found = None
    for content in all_contents(len(rates)):
        asked = asked_by(rates, content)
        if asked[0] > 0:
            times = divided(whole(bound_of(store, content)), asked)
            if found is None or is_less(times, found[0]):
                found = (times, content)
    return found


def told_by_contents(store, rates):
    """("contents", content, plan), ("more", times, plan, prices) or ("out", item)."""
    told = greatest_times(store, rates)
    if told[0] == "out":
        return told
    let, content = content_times(store, rates)
    if told[1] == let:
        return "contents", content, told[2]
    return ("more",) + told[1:]


def shows_told_by_contents(store, rates, value):
    """Whether this value is such a result as told_by_contents tells."""
    need_some_rates(store, rates)
    families = families_of(store)
    if out_asked(families, rates) is not None:
        return is_out_told(families, rates, value)
    if is_told(value, "contents", 3):
        return is_let(store, families, rates, value[1], value[2])
    if not is_told(value, "more", 4) or not is_reach(families, strengths_of(store), rates, value[1:]):
        return False
    return value[1] != content_times(store, rates)[0]


def is_let(store, families, rates, content, plan):
    """Whether the plan bears the rates as often as the content lets."""
    if not is_content(content, len(rates)):
        return False
    asked = asked_by(rates, content)
    if asked[0] == 0:
        return False
    times = divided(whole(bound_of(store, content)), asked)
    return is_bearing(families, strengths_of(store), scaled(rates, times), plan)
