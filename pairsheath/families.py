"""Sets of points, and families of sets.

A set is a list of points, rising, each once. A family is a list of sets. It is
nested where of each two of its sets the one lies within the other, or both
have no point in common.
"""


def has_both(members, a, b):
    """Whether both points are in a set."""
    return a in members and b in members


def has_just_one(members, a, b):
    """Whether a set parts two points: the one is in it and the other is not."""
    return (a in members) != (b in members)


def most_within(members):
    """As many pairs as there is room for in a set of an odd number of points."""
    return (len(members) - 1) // 2


def lies_within(inner, outer):
    """Whether each point of the one set is in the other."""
    return all([point in outer for point in inner])


def inside(sets, whole):
    """The sets of a family that lie within a set, but for that set itself."""
    return [members for members in sets if members != whole and lies_within(members, whole)]


def is_inner(sets, members):
    """Whether a set lies within another one of a family."""
    return any([members != other and lies_within(members, other) for other in sets])


def outermost(sets):
    """The sets of a family that lie within no other one of it."""
    return [members for members in sets if not is_inner(sets, members)]


def is_met(sets, point):
    """Whether a point is in some set of a family."""
    return any([point in members for members in sets])


def groups_of(points, sets):
    """The outermost sets of a nested family, and each point in none of them alone.

    The sets are sets of some of these points; the groups come in the order of
    their first points.
    """
    lone = [[point] for point in points if not is_met(sets, point)]
    return sorted([list(members) for members in outermost(sets)] + lone)
