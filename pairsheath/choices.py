"""Choices: pairs of tied points, of which no two share a point."""


def partners_of(pairs):
    """For each point that is in a pair of a choice the other one of it."""
    partners = {}
    for a, b in pairs:
        partners[a] = b
        partners[b] = a
    return partners


def is_choice(web, pairs):
    """Whether a list of tuples of two whole numbers is a choice of the web."""
    if pairs != sorted(pairs):
        return False
    met = {}
    for a, b in pairs:
        if a >= b or web.weight(a, b) is None:
            return False
        if a in met or b in met:
            return False
        met[a] = True
        met[b] = True
    return True


def worth(web, pairs):
    """The sum of the weights of a choice's ties."""
    return sum([web.weight(a, b) for a, b in pairs])


def left(web, pairs):
    """The points that are in no pair of a choice, rising."""
    partners = partners_of(pairs)
    return [point for point in range(web.size()) if point not in partners]


def partner(pairs, a):
    """The other one of a point's pair, None where the point is left out."""
    return partners_of(pairs).get(a)
