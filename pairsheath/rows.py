"""Rows and rings: lists of points along which a choice is exchanged."""

from pairsheath.choices import partner
from pairsheath.webs import ordered


def ties_along(points):
    """The ties between neighbours of a list, each lesser end first."""
    return [ordered(a, b) for a, b in zip(points, points[1:])]


def ties_around(ring):
    """The ties all round, the one that closes the ring last."""
    return ties_along(ring + ring[:1])


def none_twice(points):
    """Whether no point stands twice in a list."""
    return len(set(points)) == len(points)


def all_tied(web, ties):
    """Whether each of these is a tie of the web."""
    return all([web.weight(a, b) is not None for a, b in ties])


def in_turn(pairs, ties):
    """Whether of each two ties that follow one another just one is in the choice."""
    taken = [tie in pairs for tie in ties]
    return all([first != second for first, second in zip(taken, taken[1:])])


def fit_end(pairs, end, tie):
    """Whether a row may end at this point by this tie."""
    return tie in pairs or partner(pairs, end) is None


def turns(web, pairs, row):
    """Whether a list of whole numbers is a row of a choice in the web."""
    if len(row) < 2 or not none_twice(row):
        return False
    ties = ties_along(row)
    if not all_tied(web, ties) or not in_turn(pairs, ties):
        return False
    return fit_end(pairs, row[0], ties[0]) and fit_end(pairs, row[-1], ties[-1])


def turns_ring(web, pairs, ring):
    """Whether a list of whole numbers is a ring of a choice in the web."""
    if len(ring) < 4 or len(ring) % 2 == 1 or not none_twice(ring):
        return False
    ties = ties_around(ring)
    # An even number of ties that are in turn along the list are so too where
    # it closes.
    return all_tied(web, ties) and in_turn(pairs, ties)


def only_in(one, other):
    """The ties of the one list that are not in the other, in their order."""
    return [tie for tie in one if tie not in other]


def exchanged_ties(pairs, ties):
    """A choice that has just those of the ties that it had not."""
    return sorted(only_in(pairs, ties) + only_in(ties, pairs))


def exchanged(pairs, row):
    """A choice exchanged along a row of it."""
    return exchanged_ties(pairs, ties_along(row))


def exchanged_ring(pairs, ring):
    """A choice exchanged along a ring of it."""
    return exchanged_ties(pairs, ties_around(ring))


def neighbours_by(ties):
    """For each end of these ties the points to which they tie it."""
    neighbours = {}
    for a, b in ties:
        neighbours.setdefault(a, []).append(b)
        neighbours.setdefault(b, []).append(a)
    return neighbours


def followed(neighbours, start):
    """The points from one on, each next one a neighbour that is not there yet."""
    points = [start]
    ahead = neighbours[start][:1]
    while ahead:
        points.append(ahead[0])
        ahead = only_in(neighbours[ahead[0]], points)
    return points


def between(one, other):
    """The rows and rings that lead from the one choice to the other."""
    neighbours = neighbours_by(only_in(one, other) + only_in(other, one))
    ends = [point for point in sorted(neighbours) if len(neighbours[point]) == 1]
    found = []
    met = {}
    # Rows are followed from an end on; what is not met from any end is a ring.
    for start in ends + sorted(neighbours):
        if start not in met:
            points = followed(neighbours, start)
            for point in points:
                met[point] = True
            found.append(("row" if len(neighbours[start]) == 1 else "ring", points))
    return found
