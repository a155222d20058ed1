"""Who can be left out of a choice of most pairs, and which ties can be in one."""

from pairsheath.errors import NoTie
from pairsheath.most import most, tied_to, trails_of
from pairsheath.rows import exchanged
from pairsheath.webs import Web, ordered


def kinds(web):
    """The spare points, those beside them, and the rest, each rising."""
    spare = sorted(trails_of(web, most(web)))
    beside = tied_to(web, spare)
    rest = [point for point in range(web.size()) if point not in spare and point not in beside]
    return (spare, beside, rest)


def spared(web, a):
    """A choice of most pairs that leaves a point out, None where there is none."""
    pairs = most(web)
    trails = trails_of(web, pairs)
    if a not in trails:
        return None
    return exchanged(pairs, trails[a])


def without(web, a, b):
    """The web without the ties of two points."""
    return Web(web.size(), [tie for tie in web.ties() if a not in tie[:2] and b not in tie[:2]])


def taken_in(web, a, b):
    """A choice of most pairs that has a tie, None where there is none."""
    if web.weight(a, b) is None:
        raise NoTie("two points are not tied")
    pairs = sorted(most(without(web, a, b)) + [ordered(a, b)])
    return pairs if len(pairs) == len(most(web)) else None
