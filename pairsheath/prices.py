"""Prices of points and of sets: what they come to for two points, and in all.

Prices are a tuple (under, points, sets): a whole number from 1 on, the price
of each point, and a list of tuples (set, price).
"""

from pairsheath.families import has_both, has_just_one, most_within


def cut_price(prices, a, b):
    """The prices of two points, and of all sets that have just one of them."""
    points = prices[1]
    cut = [price for members, price in prices[2] if has_just_one(members, a, b)]
    return points[a] + points[b] + sum(cut)


def inner_price(prices, a, b):
    """The prices of two points, and of all sets that have both of them."""
    points = prices[1]
    inner = [price for members, price in prices[2] if has_both(members, a, b)]
    return points[a] + points[b] + sum(inner)


def cut_sum(prices):
    """All points' prices and all sets' prices."""
    return sum(prices[1]) + sum([price for members, price in prices[2]])


def inner_sum(prices):
    """All points' prices, and each set's as often as it has room for pairs."""
    return sum(prices[1]) + sum([price * most_within(members) for members, price in prices[2]])
