"""Webs drawn together by groups of points, and odd rings with one point out."""

from pairsheath.webs import Web, ordered


def numbers_of(groups):
    """For each point the number of the group that it is in."""
    numbers = {}
    for number, group in enumerate(groups):
        for point in group:
            numbers[point] = number
    return numbers


def heaviest_between(web, numbers):
    """For each two groups that are tied a tuple (-weight, source).

    The least of such tuples has the greatest weight, and of several sources
    with that weight the first one.
    """
    least = {}
    for a, b, weight in web.ties():
        if numbers[a] != numbers[b]:
            source = (a, b) if numbers[a] < numbers[b] else (b, a)
            found = (-weight, source)
            ends = ordered(numbers[a], numbers[b])
            least[ends] = min(least.get(ends, found), found)
    return least


def drawn(web, groups):
    """The web drawn together by groups, and the sources of its ties."""
    least = heaviest_between(web, numbers_of(groups))
    ties = [(a, b, -least[(a, b)][0]) for a, b in sorted(least)]
    sources = [least[ends][1] for ends in sorted(least)]
    return (Web(len(groups), ties), sources)


def around(ring, out):
    """The choice of neighbours around an odd ring that leaves just one point out."""
    place = ring.index(out)
    others = ring[place + 1:] + ring[:place]
    return sorted([ordered(others[at], others[at + 1]) for at in range(0, len(others), 2)])
