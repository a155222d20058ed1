"""A search for a row along which a choice gets one pair more.

A trail begins at a root, a point left out, and goes in turn along a tie that
is no pair and along a pair, with no point twice; it ends by a pair, or at the
root itself. Where the last point of a trail is tied to a second point left
out, the trail and that point are a row.
"""

from pairsheath.choices import left, partners_of


def turned_back(trails, there, back):
    """Add trails that go to there, cross to back, and go its trail backwards.

    They end at points at which no trail ended so far; these are told.
    """
    new = []
    down = trails[back]
    for place, point in enumerate(down):
        # Each trail to what lies behind a point at which none ends yet leads
        # through that point. So where the trail to there has it not, it has
        # nothing of what is gone backwards, and no point comes twice.
        if point not in trails and point not in trails[there]:
            trails[point] = trails[there] + list(reversed(down[place:]))
            new.append(point)
    return new


def gone_on(trails, partners, point, near):
    """Add the trails that a tie from the end of one opens; tell where they end."""
    if near in trails:
        # Both ends of the tie end trails: it closes an odd ring, or lies in
        # one that was closed before, and then opens none.
        return turned_back(trails, point, near) + turned_back(trails, near, point)
    beyond = partners.get(near)
    if beyond is None or beyond in trails:
        return []
    trails[beyond] = trails[point] + [near, beyond]
    return [beyond]


def trails_from(web, partners, root):
    """For each point at which some trail from the root ends, one such trail."""
    trails = {root: [root]}
    ahead = [root]
    while ahead:
        point = ahead.pop(0)
        for near in web.tied(point):
            ahead.extend(gone_on(trails, partners, point, near))
    return trails


def row_from(web, partners, root):
    """A row from the root to another point left out, None where there is none."""
    trails = trails_from(web, partners, root)
    for point in trails:
        for near in web.tied(point):
            if near != root and near not in partners:
                return trails[point] + [near]
    return None


def better(web, pairs):
    """A row of a choice between two points left out, None where there is none."""
    partners = partners_of(pairs)
    for root in left(web, pairs):
        row = row_from(web, partners, root)
        if row is not None:
            return row
    return None
