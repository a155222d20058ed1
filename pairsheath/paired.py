"""All points of a web paired at least worth, with prices as the reason."""

from pairsheath.deals import dealt, sets_of, tight_web
from pairsheath.drawing import drawn, numbers_of
from pairsheath.families import groups_of, has_both, has_just_one, inside
from pairsheath.most import most, reason
from pairsheath.parts import odd_parts
from pairsheath.spare import spared
from pairsheath.webs import Web, ordered


def sources_of(small, sources, pairs):
    """The ties from which the pairs of a web drawn together come."""
    ends = [(a, b) for a, b, weight in small.ties()]
    return [sources[ends.index(pair)] for pair in pairs]


def pairs_between(tight, groups):
    """Pairs that have one point of each group."""
    told = drawn(tight, groups)
    return sources_of(told[0], told[1], most(told[0]))


def pairs_within(tight, sets, whole, entry):
    """Pairs that have one point of each group within a set, but for the group of its entry."""
    groups = groups_of(whole, inside(sets, whole))
    others = [[point] for point in range(tight.size()) if point not in whole]
    within = Web(tight.size(), [tie for tie in tight.ties() if has_both(whole, tie[0], tie[1])])
    told = drawn(within, groups + others)
    return sources_of(told[0], told[1], spared(told[0], numbers_of(groups)[entry]))


def entry_of(pairs, members):
    """The point of a set from which the one pair leads that leaves it."""
    ends = [pair for pair in pairs if has_just_one(members, pair[0], pair[1])][0]
    return ends[0] if ends[0] in members else ends[1]


def tight_pairs(web, prices):
    """A choice of all points along tight ties, with just one tie out of each set."""
    tight = tight_web(web, prices)
    sets = sets_of(prices)
    pairs = pairs_between(tight, groups_of(list(range(web.size())), sets))
    # The pair that leaves a set is known once each set around it is gone through.
    for members in sorted(sets, key=len, reverse=True):
        pairs = pairs + pairs_within(tight, sets, members, entry_of(pairs, members))
    return sorted([ordered(a, b) for a, b in pairs])


def all_paired(web):
    """All points paired at least worth with prices, or points out that show it can't be."""
    out = reason(web)
    if len(odd_parts(web, out)) > len(out):
        return ("none", out)
    prices = dealt(web)
    return ("pairs", tight_pairs(web, prices), prices)
