"""What the tests hold the program against: small webs, and answers found by trying."""

import itertools

from pairsheath.webs import Web

SIXTY = 10**60 - 1
# Longer than what Python 3.11 writes as a text.
ENDLESS = 10**5000
FAR_OFF = (SIXTY, -SIXTY, ENDLESS, -ENDLESS)
WEIGHTS = (0, 1, -1, 7, -7, SIXTY, -SIXTY)
# Rings of three points, one within the other: 1 2 3, then this one as a point with 4 and 5, then 6 and 7.
NESTED = [(1, 2), (2, 3), (1, 3), (3, 4), (4, 5), (2, 5), (5, 6), (6, 7), (4, 7)]


def along_row(points):
    """The neighbours along a row of points, as couples."""
    return list(itertools.pairwise(points))


def round_ring(points):
    """The neighbours all round a ring of points, as couples."""
    return along_row([*points, points[0]])


def every_web(many):
    """Each web of so many points, by its ties."""
    couples = list(itertools.combinations(range(many), 2))
    for kept in itertools.product((False, True), repeat=len(couples)):
        yield Web(many, [(a, b, a - b) for (a, b), keep in zip(couples, kept) if keep])


def full_web(many, weight=1):
    """The web in which each two points are tied."""
    return Web(many, [(a, b, weight) for a, b in itertools.combinations(range(many), 2)])


def web_of(many, couples, weight=1):
    """A web whose ties all have one weight."""
    return Web(many, [(a, b, weight) for a, b in couples])


def chance_web(chance, many, share):
    """A web that has each tie with a chance of share in a hundred, of weights of any sign."""
    couples = itertools.combinations(range(many), 2)
    return Web(many, [(a, b, chance.choice(WEIGHTS)) for a, b in couples if chance.randrange(100) < share])


def every_choice(web):
    """Each choice of a web: each set of its ties of which no two share a point."""
    choices = [[]]
    for a, b, weight in web.ties():
        free = [pairs for pairs in choices if all(a not in pair and b not in pair for pair in pairs)]
        choices.extend(pairs + [(a, b)] for pairs in free)
    return choices


def best_choices(web):
    """Each choice of most pairs, found by trying."""
    known = every_choice(web)
    most = max(len(pairs) for pairs in known)
    return [sorted(pairs) for pairs in known if len(pairs) == most]


def chance_choice(chance, web):
    """Ties of a web put together by chance, as many as find room."""
    ties = [(a, b) for a, b, weight in web.ties()]
    chance.shuffle(ties)
    pairs = []
    for a, b in ties:
        if all(a not in pair and b not in pair for pair in pairs):
            pairs.append((a, b))
    return sorted(pairs)


def shapes():
    """Webs told by hand, with the number of most pairs of each."""
    yield web_of(0, []), 0
    for many in (1, 2, 5, 24):
        yield web_of(many, []), 0
    yield web_of(2, [(0, 1)]), 1
    yield web_of(24, [(3, 22)]), 1
    for many in range(3, 25):
        yield web_of(many, along_row(range(many))), many // 2
        yield web_of(many, round_ring(range(many))), many // 2
        yield web_of(many, [(0, point) for point in range(1, many)]), 1
    # Odd rings that share a point: two of them, then six.
    yield web_of(5, round_ring([0, 1, 2]) + round_ring([0, 3, 4])), 2
    yield web_of(9, round_ring([4, 0, 1, 2, 3]) + round_ring([4, 5, 6, 7, 8])), 4
    yield web_of(13, [tie for at in range(1, 13, 2) for tie in round_ring([0, at, at + 1])]), 6
    # Odd rings within odd rings, at the end of a tie, and with a further point tied to one of theirs.
    yield web_of(8, [(0, 1)] + NESTED), 4
    for far in range(1, 8):
        yield web_of(9, [(0, 1)] + NESTED + [(far, 8)]), 4
        yield web_of(10, [(0, 1)] + NESTED + [(far, 8), (8, 9)]), 5
    # The ring 2 3 4 5 6 at the end of the row 0 1 2, a ring at either end of a row, and rings on one point.
    yield web_of(7, [(0, 1), (1, 2)] + round_ring([2, 3, 4, 5, 6])), 3
    yield web_of(8, [(0, 1), (1, 2)] + round_ring([2, 3, 4, 5, 6]) + [(1, 7)]), 3
    yield web_of(8, round_ring([0, 1, 2]) + [(2, 3), (3, 4), (4, 5)] + round_ring([5, 6, 7])), 4
    yield web_of(10, [tie for at in (1, 4, 7) for tie in round_ring([at, at + 1, at + 2]) + [(0, at)]]), 4
    # Two webs side by side: two triangles, a ring and a star, two rings of twelve points.
    yield web_of(6, round_ring([0, 2, 4]) + round_ring([1, 3, 5])), 2
    yield web_of(9, round_ring([0, 3, 5, 6, 8]) + [(4, 1), (4, 2), (4, 7)]), 3
    yield web_of(24, round_ring(range(0, 24, 2)) + round_ring(range(1, 24, 2))), 12
    for many in range(2, 25):
        yield full_web(many), many // 2


def weighed(chance, web):
    """The same ties with weights of every sign."""
    return Web(web.size(), [(a, b, chance.choice(WEIGHTS)) for a, b, weight in web.ties()])


def seen(web):
    """All that a web tells, as a copy."""
    points = range(web.size())
    return (web.size(), list(web.ties()), [list(web.tied(point)) for point in points])
