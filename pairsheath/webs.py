"""Webs: points numbered from 0 on, and weighed ties between two of them."""

from pairsheath.errors import BadTie, TooMany, Twice

MOST_POINTS = 24


def check_size(many):
    """Refuse a number of points that no web may have."""
    # No refusal writes a number into its words: Python itself fails to
    # write one of several thousand figures.
    if many < 0 or many > MOST_POINTS:
        raise TooMany("a web has 0 to 24 points")


def check_ends(many, a, b):
    """Refuse two ends that no tie among so many points may have."""
    for end in (a, b):
        if end < 0 or end >= many:
            raise BadTie("an end of a tie is no point")
    if a == b:
        raise BadTie("both ends of a tie are alike")


def ordered(a, b):
    """Both ends as a tuple, the lesser one first."""
    return (min(a, b), max(a, b))


def weights_of(many, ties):
    """The weight of each tie by its ordered ends, or the first refusal."""
    weights = {}
    for a, b, weight in ties:
        check_ends(many, a, b)
        ends = ordered(a, b)
        if ends in weights:
            raise Twice("two points are tied twice")
        weights[ends] = weight
    return weights


def neighbours_of(many, ends_sorted):
    """For each point the points tied to it, rising."""
    neighbours = [[] for point in range(many)]
    # Sorted ends bring each point its lesser neighbours ahead of its greater
    # ones, and both rising, so that nothing is left to sort.
    for a, b in ends_sorted:
        neighbours[a].append(b)
        neighbours[b].append(a)
    return neighbours


class Web:
    """Points 0, 1, .. many - 1 and their ties; it never changes."""

    def __init__(self, many, ties):
        check_size(many)
        weights = weights_of(many, ties)
        ends_sorted = sorted(weights)
        self.many = many
        self.weights = weights
        self.ties_sorted = [(a, b, weights[(a, b)]) for a, b in ends_sorted]
        self.neighbours = neighbours_of(many, ends_sorted)

    def size(self):
        """The number of points."""
        return self.many

    def ties(self):
        """The ties as tuples (a, b, weight), a less than b, sorted."""
        return list(self.ties_sorted)

    def weight(self, a, b):
        """The weight of the tie between two whole numbers, or None."""
        return self.weights.get(ordered(a, b))

    def tied(self, a):
        """The points tied to a point, rising."""
        return list(self.neighbours[a])
