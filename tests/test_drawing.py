import inspect
import itertools
import random
import unittest

from pairsheath.choices import is_choice, left
from pairsheath.drawing import around, drawn
from pairsheath.webs import Web
from trying import SIXTY, chance_web, every_choice, every_web, full_web, seen, web_of


def every_grouping(points):
    """Each list of groups of the points, with the groups in one order and rising."""
    if not points:
        return [[]]
    groupings = []
    for groups in every_grouping(points[:-1]):
        groupings.append(groups + [[points[-1]]])
        for at in range(len(groups)):
            groupings.append(groups[:at] + [groups[at] + [points[-1]]] + groups[at + 1:])
    return groupings


def chance_grouping(chance, many):
    """The points in groups by chance, in any order within and among them."""
    points = list(range(many))
    chance.shuffle(points)
    groups = [[point] for point in points[:chance.randrange(1, many + 1)]]
    for point in points[len(groups):]:
        group = chance.choice(groups)
        group.insert(chance.randrange(len(group) + 1), point)
    return groups


def drawn_by_words(web, groups):
    """The ties and sources of the web drawn together, found by looking at each two points."""
    ties = []
    sources = []
    for first, second in itertools.combinations(range(len(groups)), 2):
        leading = [(a, b) for a in groups[first] for b in groups[second] if web.weight(a, b) is not None]
        if leading:
            greatest = max(web.weight(a, b) for a, b in leading)
            ties.append((first, second, greatest))
            sources.append(sorted(tie for tie in leading if web.weight(*tie) == greatest)[0])
    return ties, sources


class DrawnTest(unittest.TestCase):
    def hold(self, web, groups):
        told = drawn(web, groups)
        self.assertIs(type(told), tuple)
        drawn_web, sources = told
        self.assertIsInstance(drawn_web, Web)
        self.assertIs(type(sources), list)
        self.assertEqual(drawn_web.size(), len(groups))
        self.assertEqual((drawn_web.ties(), sources), drawn_by_words(web, groups), groups)
        self.assertTrue(all(type(source) is tuple for source in sources))
        return drawn_web, sources

    def test_no_points_and_no_groups(self):
        web, sources = self.hold(Web(0, []), [])
        self.assertEqual(seen(web), (0, [], []))
        self.assertEqual(sources, [])

    def test_one_group_for_each_point(self):
        web = Web(4, [(3, 0, 5), (1, 2, -SIXTY), (3, 2, 0)])
        drawn_web, sources = self.hold(web, [[0], [1], [2], [3]])
        self.assertEqual(seen(drawn_web), seen(web))
        self.assertEqual(sources, [(0, 3), (1, 2), (2, 3)])
        drawn_web, sources = self.hold(web, [[3], [1], [0], [2]])
        self.assertEqual(drawn_web.ties(), [(0, 2, 5), (0, 3, 0), (1, 3, -SIXTY)])
        self.assertEqual(sources, [(3, 0), (3, 2), (1, 2)])
        self.hold(full_web(24), [[point] for point in range(24)])
        self.hold(full_web(24), [[point] for point in reversed(range(24))])

    def test_one_group_of_all_points(self):
        for web in (full_web(24), Web(24, []), Web(1, []), full_web(5)):
            points = list(range(web.size()))
            drawn_web, sources = self.hold(web, [points[::-1]])
            self.assertEqual(seen(drawn_web), (1, [], [[]]))
            self.assertEqual(sources, [])

    def test_the_greatest_weight_also_below_nought(self):
        weights = ((5, 7, 6), (-5, -7, -6), (0, -1, -SIXTY), (SIXTY, SIXTY - 1, 0), (-SIXTY, 1 - SIXTY, -SIXTY))
        for some in weights:
            for first, second, third in itertools.permutations(some):
                web = Web(4, [(0, 2, first), (1, 2, second), (1, 3, third), (0, 1, SIXTY)])
                drawn_web, sources = self.hold(web, [[0, 1], [3, 2]])
                self.assertEqual(drawn_web.weight(0, 1), max(some))

    def test_of_several_the_first_tuple(self):
        web = web_of(6, [(0, 5), (1, 5), (1, 4), (2, 3), (2, 4)], -2)
        self.assertEqual(self.hold(web, [[2, 0, 1], [5, 3, 4]])[1], [(0, 5)])
        self.assertEqual(self.hold(web, [[5, 3, 4], [2, 0, 1]])[1], [(3, 2)])
        self.assertEqual(self.hold(web, [[4], [2, 1], [5, 3], [0]])[1], [(4, 1), (1, 5), (5, 0)])
        heavier = Web(6, [(0, 5, 1), (1, 5, 2), (1, 4, 2), (2, 3, 1), (2, 4, 2)])
        self.assertEqual(self.hold(heavier, [[2, 0, 1], [5, 3, 4]])[1], [(1, 4)])
        self.assertEqual(self.hold(heavier, [[5, 3, 4], [2, 0, 1]])[1], [(4, 1)])

    def test_no_tie_where_none_leads(self):
        web = web_of(6, [(0, 1), (2, 3), (3, 4)])
        drawn_web, sources = self.hold(web, [[0, 1], [5, 2], [4, 3]])
        self.assertEqual(drawn_web.ties(), [(1, 2, 1)])
        self.assertEqual(sources, [(2, 3)])

    def test_every_grouping_of_small_webs(self):
        for many in range(5):
            for web in every_web(many):
                for groups in every_grouping(list(range(many))):
                    for turned in itertools.permutations(groups):
                        self.hold(web, [group[::-1] for group in turned])

    def test_greater_webs(self):
        chance = random.Random(12)
        for times in range(300):
            many = chance.randrange(1, 25)
            web = chance_web(chance, many, chance.choice((10, 50, 90)))
            self.hold(web, chance_grouping(chance, many))

    def test_names_of_arguments(self):
        self.assertEqual(list(inspect.signature(drawn).parameters), ["web", "groups"])
        self.assertEqual(list(inspect.signature(around).parameters), ["ring", "out"])


class AroundTest(unittest.TestCase):
    def hold(self, ring, out):
        """Hold the choice against the words, which leave just one."""
        told = around(ring, out)
        self.assertIs(type(told), list)
        many = max(ring) + 1
        web = web_of(many, [(ring[at - 1], ring[at]) for at in range(len(ring))])
        self.assertIs(is_choice(web, told), True, (ring, out, told))
        strangers = [point for point in range(many) if point not in ring]
        self.assertEqual(left(web, told), sorted(strangers + [out]))
        return told

    def test_told_by_hand(self):
        self.assertEqual(self.hold([7, 2, 5], 7), [(2, 5)])
        self.assertEqual(self.hold([7, 2, 5], 2), [(5, 7)])
        self.assertEqual(self.hold([7, 2, 5], 5), [(2, 7)])
        self.assertEqual(self.hold([4, 0, 9, 3, 1], 4), [(0, 9), (1, 3)])
        self.assertEqual(self.hold([4, 0, 9, 3, 1], 0), [(1, 4), (3, 9)])
        self.assertEqual(self.hold([4, 0, 9, 3, 1], 9), [(0, 4), (1, 3)])
        self.assertEqual(self.hold([4, 0, 9, 3, 1], 3), [(0, 9), (1, 4)])
        self.assertEqual(self.hold([4, 0, 9, 3, 1], 1), [(0, 4), (3, 9)])

    def test_rings_of_3_5_and_7_in_any_order_each_point_out(self):
        for some in ((0, 1, 2), (3, 11, 23), (0, 1, 2, 3, 4), (23, 0, 9, 10, 2), (0, 1, 2, 3, 4, 5, 6)):
            for ring in itertools.permutations(some):
                for out in ring:
                    self.hold(list(ring), out)

    def test_there_is_just_that_one(self):
        for ring in itertools.permutations(range(5)):
            web = web_of(5, [(ring[at - 1], ring[at]) for at in range(5)])
            for out in ring:
                known = [pairs for pairs in every_choice(web) if left(web, pairs) == [out]]
                self.assertEqual([around(list(ring), out)], known)

    def test_rings_of_23_points(self):
        chance = random.Random(13)
        rings = [list(range(23)), list(range(23, 0, -1))]
        rings += [chance.sample(range(24), 23) for times in range(20)]
        for ring in rings:
            for out in ring:
                self.assertEqual(len(self.hold(ring, out)), 11)


class BelongingTest(unittest.TestCase):
    def setUp(self):
        self.web = Web(5, [(0, 1, 4), (1, 2, -2), (2, 3, 0), (3, 4, 4), (4, 0, 4)])

    def test_what_is_handed_in_stays_as_it_was(self):
        before = seen(self.web)
        groups = [[3, 1], [4], [2, 0]]
        drawn(self.web, groups)
        self.assertEqual(groups, [[3, 1], [4], [2, 0]])
        self.assertEqual(seen(self.web), before)
        ring = [3, 0, 4, 1, 2]
        for out in range(5):
            around(ring, out)
            self.assertEqual(ring, [3, 0, 4, 1, 2])

    def test_what_is_told_may_be_changed_afterwards(self):
        groups = [[3, 1], [4], [2, 0]]
        drawn_web, sources = drawn(self.web, groups)
        first = (seen(drawn_web), list(sources))
        sources.reverse()
        drawn_web.ties().clear()
        sources.clear()
        again, sources = drawn(self.web, groups)
        self.assertEqual((seen(again), sources), first)
        self.assertEqual(seen(drawn_web), first[0])
        told = around([3, 0, 4], 0)
        told.clear()
        self.assertEqual(around([3, 0, 4], 0), [(3, 4)])

    def test_what_was_handed_in_may_be_changed_afterwards(self):
        groups = [[3, 1], [4], [2, 0]]
        drawn_web, sources = drawn(self.web, groups)
        first = (seen(drawn_web), list(sources))
        groups[0].append(4)
        groups.pop()
        self.assertEqual((seen(drawn_web), sources), first)
        ring = [3, 0, 4]
        told = around(ring, 3)
        ring.clear()
        self.assertEqual(told, [(0, 4)])

    def test_the_same_asked_again_is_answered_the_same(self):
        for groups in ([[3, 1], [4], [2, 0]], [[0], [4, 3, 2], [1]], [[0, 1, 2, 3, 4]]):
            first = drawn(self.web, groups)
            drawn(self.web, [[4, 3], [2, 1, 0]])
            again = drawn(self.web, groups)
            self.assertEqual((seen(again[0]), again[1]), (seen(first[0]), first[1]))


if __name__ == "__main__":
    unittest.main()
