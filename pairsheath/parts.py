"""The parts of a web, with some of its points out."""


def part_from(web, start, met):
    """The part that a point is in, rising; met are the points not to enter.

    Its points are put into met, so that no later part begins in it.
    """
    met[start] = True
    part = [start]
    ahead = [start]
    while ahead:
        point = ahead.pop()
        for near in web.tied(point):
            if near not in met:
                met[near] = True
                part.append(near)
                ahead.append(near)
    return sorted(part)


def parts(web, out):
    """All parts without the points out, in the order of their first points."""
    met = {}
    for point in out:
        met[point] = True
    found = []
    for point in range(web.size()):
        if point not in met:
            found.append(part_from(web, point, met))
    return found


def odd_parts(web, out):
    """The parts of an odd number of points, in the same order."""
    return [part for part in parts(web, out) if len(part) % 2 == 1]
