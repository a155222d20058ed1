"""As many pairs as can be, and the points out that are the reason."""

from pairsheath.choices import left, partners_of
from pairsheath.rows import exchanged
from pairsheath.search import better, trails_from


def most(web):
    """A choice of most pairs."""
    pairs = []
    row = better(web, pairs)
    while row is not None:
        pairs = exchanged(pairs, row)
        row = better(web, pairs)
    return pairs


def trails_of(web, pairs):
    """For each spare point a trail that ends at it, by a choice of most pairs.

    Between this choice and another one of most pairs that leaves a point out
    lies a row from a point left out here to that one, and the row is a trail.
    """
    partners = partners_of(pairs)
    trails = {}
    for root in left(web, pairs):
        trails.update(trails_from(web, partners, root))
    return trails


def has_tie_to(web, point, some):
    """Whether a point is tied to one of some points."""
    return any([near in some for near in web.tied(point)])


def tied_to(web, spare):
    """The points that are not spare, but tied to a spare one, rising."""
    others = [point for point in range(web.size()) if point not in spare]
    return [point for point in others if has_tie_to(web, point, spare)]


def reason(web):
    """Points out by which the pairs of a choice of most pairs are counted."""
    spare = sorted(trails_of(web, most(web)))
    return tied_to(web, spare)
