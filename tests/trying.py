"""What the tests hold the program against: small webs, and answers found by trying."""

import functools
import itertools
import unittest

from pairsheath.choices import is_choice
from pairsheath.webs import Web

SIXTY = 10**60 - 1
# Longer than what Python 3.11 writes as a text.
ENDLESS = 10**5000
FAR_OFF = (SIXTY, -SIXTY, ENDLESS, -ENDLESS)
WEIGHTS = (0, 1, -1, 7, -7, SIXTY, -SIXTY)
WIDE = tuple(range(-30, 31))
LONG = (SIXTY, -SIXTY, SIXTY - 1, 1 - SIXTY, 10**59, -(10**59), 3, 0)
# Rings of three points, one within the other: 1 2 3, then this one as a point with 4 and 5, then 6 and 7.
NESTED = [(1, 2), (2, 3), (1, 3), (3, 4), (4, 5), (2, 5), (5, 6), (6, 7), (4, 7)]


def along_row(points):
    """The neighbours along a row of points, as couples."""
    return list(itertools.pairwise(points))


def round_ring(points):
    """The neighbours all round a ring of points, as couples."""
    return along_row([*points, points[0]])


def every_web(many):
    """Each web of so many points, by its ties."""
    couples = list(itertools.combinations(range(many), 2))
    for kept in itertools.product((False, True), repeat=len(couples)):
        yield Web(many, [(a, b, a - b) for (a, b), keep in zip(couples, kept) if keep])


def full_web(many, weight=1):
    """The web in which each two points are tied."""
    return Web(many, [(a, b, weight) for a, b in itertools.combinations(range(many), 2)])


def web_of(many, couples, weight=1):
    """A web whose ties all have one weight."""
    return Web(many, [(a, b, weight) for a, b in couples])


def chance_web(chance, many, share):
    """A web that has each tie with a chance of share in a hundred, of weights of any sign."""
    couples = itertools.combinations(range(many), 2)
    return Web(many, [(a, b, chance.choice(WEIGHTS)) for a, b in couples if chance.randrange(100) < share])


def every_choice(web):
    """Each choice of a web: each set of its ties of which no two share a point."""
    choices = [[]]
    for a, b, weight in web.ties():
        free = [pairs for pairs in choices if all(a not in pair and b not in pair for pair in pairs)]
        choices.extend(pairs + [(a, b)] for pairs in free)
    return choices


def best_choices(web):
    """Each choice of most pairs, found by trying."""
    known = every_choice(web)
    most = max(len(pairs) for pairs in known)
    return [sorted(pairs) for pairs in known if len(pairs) == most]


def worth_by_trying(web, best, may_leave):
    """The best worth of the choices that have all points, or that may leave some out; None where there is none."""
    @functools.cache
    def found(points):
        if not points:
            return 0
        known = [found(points[1:])] if may_leave else []
        for near in set(web.tied(points[0])) & set(points):
            rest = found(tuple(point for point in points[1:] if point != near))
            if rest is not None:
                known.append(web.weight(points[0], near) + rest)
        return best(known, default=None)

    return found(tuple(range(web.size())))


def least_worth(web):
    """The least worth of a choice of all points, None where there is none."""
    return worth_by_trying(web, min, False)


def greatest_worth(web):
    """The greatest worth of a choice."""
    return worth_by_trying(web, max, True)


def chance_choice(chance, web):
    """Ties of a web put together by chance, as many as find room."""
    ties = [(a, b) for a, b, weight in web.ties()]
    chance.shuffle(ties)
    pairs = []
    for a, b in ties:
        if all(a not in pair and b not in pair for pair in pairs):
            pairs.append((a, b))
    return sorted(pairs)


def shapes():
    """Webs told by hand, with the number of most pairs of each."""
    yield web_of(0, []), 0
    for many in (1, 2, 5, 24):
        yield web_of(many, []), 0
    yield web_of(2, [(0, 1)]), 1
    yield web_of(24, [(3, 22)]), 1
    for many in range(3, 25):
        yield web_of(many, along_row(range(many))), many // 2
        yield web_of(many, round_ring(range(many))), many // 2
        yield web_of(many, [(0, point) for point in range(1, many)]), 1
    # Odd rings that share a point: two of them, then six.
    yield web_of(5, round_ring([0, 1, 2]) + round_ring([0, 3, 4])), 2
    yield web_of(9, round_ring([4, 0, 1, 2, 3]) + round_ring([4, 5, 6, 7, 8])), 4
    yield web_of(13, [tie for at in range(1, 13, 2) for tie in round_ring([0, at, at + 1])]), 6
    # Odd rings within odd rings, at the end of a tie, and with a further point tied to one of theirs.
    yield web_of(8, [(0, 1)] + NESTED), 4
    for far in range(1, 8):
        yield web_of(9, [(0, 1)] + NESTED + [(far, 8)]), 4
        yield web_of(10, [(0, 1)] + NESTED + [(far, 8), (8, 9)]), 5
    # The ring 2 3 4 5 6 at the end of the row 0 1 2, a ring at either end of a row, and rings on one point.
    yield web_of(7, [(0, 1), (1, 2)] + round_ring([2, 3, 4, 5, 6])), 3
    yield web_of(8, [(0, 1), (1, 2)] + round_ring([2, 3, 4, 5, 6]) + [(1, 7)]), 3
    yield web_of(8, round_ring([0, 1, 2]) + [(2, 3), (3, 4), (4, 5)] + round_ring([5, 6, 7])), 4
    yield web_of(10, [tie for at in (1, 4, 7) for tie in round_ring([at, at + 1, at + 2]) + [(0, at)]]), 4
    # Two webs side by side: two triangles, a ring and a star, two rings of twelve points.
    yield web_of(6, round_ring([0, 2, 4]) + round_ring([1, 3, 5])), 2
    yield web_of(9, round_ring([0, 3, 5, 6, 8]) + [(4, 1), (4, 2), (4, 7)]), 3
    yield web_of(24, round_ring(range(0, 24, 2)) + round_ring(range(1, 24, 2))), 12
    for many in range(2, 25):
        yield full_web(many), many // 2


def weighed(chance, web, weights=WEIGHTS):
    """The same ties with any of these weights, or with some of every sign."""
    return Web(web.size(), [(a, b, chance.choice(weights)) for a, b, weight in web.ties()])


def side_by_side(one, other):
    """One web of the points of both, those of the other numbered on."""
    ties = [(a + one.size(), b + one.size(), weight) for a, b, weight in other.ties()]
    return Web(one.size() + other.size(), one.ties() + ties)


def seen(web):
    """All that a web tells, as a copy."""
    points = range(web.size())
    return (web.size(), list(web.ties()), [list(web.tied(point)) for point in points])


def by_words(prices, a, b):
    """The cut price and the inner price of two points, as the promise has them."""
    under, points, sets = prices
    cut = inner = points[a] + points[b]
    for members, price in sets:
        there = [point for point in (a, b) if point in members]
        if len(there) == 1:
            cut += price
        if len(there) == 2:
            inner += price
    return cut, inner


def sums_by_words(prices):
    """The cut sum and the inner sum, as the promise has them."""
    under, points, sets = prices
    cut = inner = sum(points)
    for members, price in sets:
        cut += price
        # Each pair of a set's points but one takes two of them.
        inner += price * len(members[1::2])
    return cut, inner


def points_of(node):
    """The points of a node: it is a point, or a ring of nodes."""
    return [node] if isinstance(node, int) else [point for inner in node for point in points_of(inner)]


def chance_ring(chance, node, entry):
    """Pairs of all points within a node but its entry, and further ties, one between each two neighbours of a ring."""
    if isinstance(node, int):
        return [], []
    place = [entry in points_of(inner) for inner in node].index(True)
    ring = node[place:] + node[:place]
    entries = [entry] + [chance.choice(points_of(inner)) for inner in ring[1:]]
    pairs = list(zip(entries[1::2], entries[2::2]))
    ties = [(chance.choice(points_of(one)), chance.choice(points_of(other)))
            for one, other in zip(ring[::2], ring[1::2] + ring[:1])]
    for inner, within in zip(ring, entries):
        more = chance_ring(chance, inner, within)
        pairs += more[0]
        ties += more[1]
    return pairs, ties


def chance_nodes(chance, many, lone, most_sets):
    """All points as so many lone nodes and an even number of others, and the sets that they are."""
    nodes = chance.sample(range(many), many)
    sets = []
    while len(sets) < most_sets and len(nodes) >= lone + 3:
        length = 5 if len(nodes) >= lone + 5 and not chance.randrange(4) else 3
        joined = chance.sample(nodes, length)
        nodes = [node for node in nodes if node not in joined] + [joined]
        sets.append(sorted(points_of(joined)))
    return nodes, sets


def planted(chance, many, lone, bounds, inner):
    """A web with its best choice, that leaves so many points out, and prices that show it, sets within sets.

    Told are the web, the choice, the prices. The prices are inner ones of a heaviest choice, or cut ones of a choice
    of all points. Bounds are the least and the greatest price of a point.
    """
    nodes, sets = chance_nodes(chance, many, lone, chance.randrange(many // 2))
    entries = [chance.choice(points_of(node)) for node in nodes]
    pairs = list(zip(entries[lone::2], entries[lone + 1::2]))
    tight = []
    for node, entry in zip(nodes, entries):
        more = chance_ring(chance, node, entry)
        pairs += more[0]
        tight += more[1]
    points = [0 if point in entries[:lone] else chance.randint(*bounds) for point in range(many)]
    prices = (1, points, [(members, 1 + abs(chance.randint(*bounds))) for members in sets])
    ties = {}
    for a, b in itertools.combinations(range(many), 2):
        if {(a, b), (b, a)} & set(pairs + tight):
            ties[a, b] = by_words(prices, a, b)[inner]
        elif chance.randrange(3):
            far = abs(chance.randint(*bounds))
            ties[a, b] = by_words(prices, a, b)[inner] + (-far if inner else far)
    web = Web(many, [(a, b, weight) for (a, b), weight in ties.items()])
    return web, sorted((min(pair), max(pair)) for pair in pairs), prices


class ToldCase(unittest.TestCase):
    """Holds what is told against the words that say of what kind it is."""

    def hold_choice(self, web, pairs):
        """Hold a list against the words: a choice of the web, lesser ends first, sorted."""
        self.assertIs(type(pairs), list)
        self.assertEqual(pairs, sorted(pairs))
        for a, b in pairs:
            self.assertLess(a, b)
            self.assertIsNotNone(web.weight(a, b))
        points = list(itertools.chain.from_iterable(pairs))
        self.assertEqual(len(points), len(set(points)))
        self.assertIs(is_choice(web, pairs), True)

    def hold_out(self, web, out):
        """Hold a list against the words: points of the web, rising, each once."""
        self.assertIs(type(out), list)
        self.assertEqual(out, sorted(set(out)))
        self.assertTrue(all(type(point) is int and 0 <= point < web.size() for point in out), out)

    def hold_prices(self, web, prices):
        """Hold prices against the words: under, a price for each point, sets with their prices."""
        self.assertIs(type(prices), tuple)
        under, points, sets = prices
        self.assertIs(type(under), int)
        self.assertGreaterEqual(under, 1)
        self.assertEqual([type(told) for told in (points, sets)], [list, list])
        self.assertEqual([type(price) for price in points], [int] * web.size())
        for told in sets:
            self.assertIs(type(told), tuple)
            members, price = told
            self.hold_out(web, members)
            self.assertGreaterEqual(len(members), 3)
            self.assertEqual(len(members) % 2, 1)
            self.assertIs(type(price), int)
            self.assertGreater(price, 0)
        self.assertEqual(len({tuple(members) for members, price in sets}), len(sets))
