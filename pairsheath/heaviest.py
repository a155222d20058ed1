"""A heaviest choice, with prices as the reason."""

from pairsheath.paired import all_paired
from pairsheath.webs import Web


def gain(web, a, b):
    """What two points can bring a choice: nought where they are not tied, or below nought."""
    weight = web.weight(a, b)
    return 0 if weight is None else max(weight, 0)


def filled(web):
    """A web in which each two points are tied, the weight being their gain with its sign turned.

    So what pairs all points at least worth gains the most. To an odd number of
    points one more is added, which brings nothing.
    """
    many = web.size() + web.size() % 2
    ties = []
    for b in range(many):
        ties.extend([(a, b, -gain(web, a, b)) for a in range(b)])
    return Web(many, ties)


def inner_points(prices, many):
    """The inner prices of points from their cut prices."""
    points = list(prices[1])
    for members, price in prices[2]:
        for point in members:
            points[point] += price
    return [-price for price in points[:many]]


def turned_inner(prices, many):
    """Inner prices of the first so many points, from the cut prices of a filled web.

    In a cut price a set counts once for each of the two points that it has,
    less twice where it has both. So, with all signs turned, its price goes onto
    each of its points, and twice onto the set as an inner one.

    Until a deal ends, two points or more have been spare from the first step
    on: they have risen in each, so that no inner price is less than theirs.
    They are in no common set, and tied at no cost above nought: so no inner
    price falls below nought. At the end the pair of the one point more costs
    nothing: its inner price is 0, and no set that has a price has it, since
    this would have brought it below nought.
    """
    sets = [(members, 2 * price) for members, price in prices[2]]
    return (prices[0], inner_points(prices, many), sets)


def heaviest(web):
    """A heaviest choice, and the prices that show that none is heavier."""
    told = all_paired(filled(web))
    pairs = [(a, b) for a, b in told[1] if gain(web, a, b) > 0]
    return (pairs, turned_inner(told[2], web.size()))
