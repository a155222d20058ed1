"""What the tests hold the program against: small webs, and answers found by trying."""

import itertools

from pairsheath.webs import Web

SIXTY = 10**60 - 1
# Longer than what Python 3.11 writes as a text.
ENDLESS = 10**5000
FAR_OFF = (SIXTY, -SIXTY, ENDLESS, -ENDLESS)


def every_web(many):
    """Each web of so many points, by its ties."""
    couples = list(itertools.combinations(range(many), 2))
    for kept in itertools.product((False, True), repeat=len(couples)):
        yield Web(many, [(a, b, a - b) for (a, b), keep in zip(couples, kept) if keep])


def full_web(many, weight=1):
    """The web in which each two points are tied."""
    return Web(many, [(a, b, weight) for a, b in itertools.combinations(range(many), 2)])


def web_of(many, couples, weight=1):
    """A web whose ties all have one weight."""
    return Web(many, [(a, b, weight) for a, b in couples])


def chance_web(chance, many, share):
    """A web that has each tie with a chance of share in a hundred, of weights of any sign."""
    weights = (0, 1, -1, 7, -7, SIXTY, -SIXTY)
    couples = itertools.combinations(range(many), 2)
    return Web(many, [(a, b, chance.choice(weights)) for a, b in couples if chance.randrange(100) < share])


def every_choice(web):
    """Each choice of a web: each set of its ties of which no two share a point."""
    choices = [[]]
    for a, b, weight in web.ties():
        free = [pairs for pairs in choices if all(a not in pair and b not in pair for pair in pairs)]
        choices.extend(pairs + [(a, b)] for pairs in free)
    return choices


def chance_choice(chance, web):
    """Ties of a web put together by chance, as many as find room."""
    ties = [(a, b) for a, b, weight in web.ties()]
    chance.shuffle(ties)
    pairs = []
    for a, b in ties:
        if all(a not in pair and b not in pair for pair in pairs):
            pairs.append((a, b))
    return sorted(pairs)


def seen(web):
    """All that a web tells, as a copy."""
    points = range(web.size())
    return (web.size(), list(web.ties()), [list(web.tied(point)) for point in points])
