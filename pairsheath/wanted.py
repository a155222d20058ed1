"""Ties, each perhaps several times, so that each point has as many ends as it wants."""

from pairsheath.choices import left
from pairsheath.errors import TooMany
from pairsheath.most import most, reason
from pairsheath.webs import MOST_POINTS, Web


def copies_of(numbers):
    """Each point as often as it is wanted, rising."""
    copies = []
    for point, number in enumerate(numbers):
        copies.extend([point] * number)
    return copies


def copied(web, copies):
    """The web of the copies: two are tied where their points are."""
    ties = []
    for b in range(len(copies)):
        ties.extend([(a, b, 0) for a in range(b) if web.weight(copies[a], copies[b]) is not None])
    return Web(len(copies), ties)


def counted(copies, pairs):
    """The ties of the points whose copies are paired, with how many times each is told."""
    times = {}
    for a, b in pairs:
        # Copies rise with their points, so that the lesser one stays first.
        tie = (copies[a], copies[b])
        times[tie] = times.get(tie, 0) + 1
    return [(a, b, times[(a, b)]) for a, b in sorted(times)]


def wanted(web, numbers):
    """Ties by which each point has as many ends as its number, or points that are the reason for none."""
    if sum(numbers) > MOST_POINTS:
        raise TooMany("more than 24 ends are wanted together")
    copies = copies_of(numbers)
    web_of_copies = copied(web, copies)
    pairs = most(web_of_copies)
    if not left(web_of_copies, pairs):
        return ("ties", counted(copies, pairs))
    # All copies of a point are alike: each of them is beside a spare one, or none is. So the reason has all copies
    # of its points, and the parts without it are those of the web without these points.
    return ("none", sorted(set([copies[copy] for copy in reason(web_of_copies)])))
