"""Deals: prices under which all points of a web can be paired along tight ties.

A tie is tight where the cut price of its ends comes to under times its weight.
Prices are dealt in steps. In each the tight ties are looked at, with each
outermost set drawn together to one point: the spare points of this web, part
by part, rise in price, and those beside them fall, so that ties between both
stay tight. It ends where no point is spare.
"""

from pairsheath.drawing import drawn, numbers_of
from pairsheath.families import groups_of
from pairsheath.parts import parts
from pairsheath.prices import cut_price
from pairsheath.spare import kinds
from pairsheath.webs import Web

# Two groups that both rise meet half way: under 2 that is a whole number.
UNDER = 2


def first_prices(web):
    """One price for all points, the highest that no tie is too cheap for."""
    least = min([weight for a, b, weight in web.ties()], default=0)
    return (UNDER, [least for point in range(web.size())], [])


def sets_of(prices):
    """The sets that have a price."""
    return [members for members, price in prices[2]]


def room(prices, tie):
    """How much the cut price of a tie's ends can rise."""
    return prices[0] * tie[2] - cut_price(prices, tie[0], tie[1])


def tight_web(web, prices):
    """The web of the tight ties alone."""
    return Web(web.size(), [tie for tie in web.ties() if room(prices, tie) == 0])


def joined(groups, numbers):
    """The points of the groups that have these numbers, rising."""
    points = []
    for number in numbers:
        points.extend(groups[number])
    return sorted(points)


def sides(web, prices):
    """The groups that rise in price, and those that fall."""
    groups = groups_of(list(range(web.size())), sets_of(prices))
    small = drawn(tight_web(web, prices), groups)[0]
    found = kinds(small)
    rising = [joined(groups, part) for part in parts(small, found[1] + found[2])]
    falling = [groups[number] for number in found[1]]
    return (rising, falling)


def lifts_of(rising, falling):
    """For each point of these groups whether its side of a tie rises or falls."""
    lifts = {}
    for group in rising:
        for point in group:
            lifts[point] = 1
    for group in falling:
        for point in group:
            lifts[point] = -1
    return lifts


def step_of(web, prices, rising, falling):
    """As far as these groups can rise and fall: a tie gets tight, or a set free."""
    lifts = lifts_of(rising, falling)
    numbers = numbers_of(rising)
    bounds = [price for members, price in prices[2] if members in falling]
    for tie in web.ties():
        speed = lifts.get(tie[0], 0) + lifts.get(tie[1], 0)
        # What rises together has its ties within, where a set's price is not cut.
        if speed > 0 and numbers.get(tie[0]) != numbers.get(tie[1]):
            bounds.append(room(prices, tie) // speed)
    return min(bounds)


def lifted(prices, groups, by):
    """The prices with each of these groups, points alone and sets, dearer by a number.

    A set whose price comes to nought is none of the sets any more.
    """
    points = list(prices[1])
    costs = {}
    for members, price in prices[2]:
        costs[tuple(members)] = price
    for group in groups:
        if len(group) == 1:
            points[group[0]] += by
        else:
            costs[tuple(group)] = costs.get(tuple(group), 0) + by
    sets = [(list(members), costs[members]) for members in costs if costs[members] > 0]
    return (prices[0], points, sets)


def dealt(web):
    """Prices with which the tight ties pair all points, of a web in which this can be done."""
    prices = first_prices(web)
    found = sides(web, prices)
    while found[0]:
        step = step_of(web, prices, found[0], found[1])
        prices = lifted(lifted(prices, found[0], step), found[1], -step)
        found = sides(web, prices)
    return prices
