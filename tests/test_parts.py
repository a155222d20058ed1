import inspect
import itertools
import unittest

from pairsheath.parts import odd_parts, parts
from pairsheath.webs import Web
from trying import every_web

FEW = 5


def every_out(many):
    """Each set of points, as a rising list."""
    for length in range(many + 1):
        for out in itertools.combinations(range(many), length):
            yield list(out)


def parts_by_joining(web, out):
    """The parts as the promise has them, found by joining sets of points."""
    groups = [{point} for point in range(web.size()) if point not in out]
    for a, b, weight in web.ties():
        if a not in out and b not in out:
            joined = [group for group in groups if a in group or b in group]
            groups = [group for group in groups if group not in joined]
            groups.append(set().union(*joined))
    return sorted(sorted(group) for group in groups)


class PartsTest(unittest.TestCase):
    def both(self, web, out, told, odd):
        self.assertEqual(parts(web, out), told)
        self.assertEqual(odd_parts(web, out), odd)

    def test_every_small_web_with_any_points_out(self):
        for many in range(FEW + 1):
            for web in every_web(many):
                for out in every_out(many):
                    told = parts_by_joining(web, out)
                    odd = [part for part in told if len(part) % 2 == 1]
                    self.both(web, out, told, odd)

    def test_points_out_in_any_order(self):
        web = Web(7, [(0, 6, 1), (1, 5, 1), (5, 3, 1), (6, 2, 1), (2, 4, 1)])
        told = parts(web, [2, 3, 6])
        self.assertEqual(told, [[0], [1, 5], [4]])
        for out in itertools.permutations([2, 3, 6]):
            self.both(web, list(out), told, [[0], [4]])

    def test_a_web_without_points(self):
        self.both(Web(0, []), [], [], [])

    def test_all_points_out(self):
        web = Web(3, [(0, 1, 1), (1, 2, 1)])
        for out in itertools.permutations(range(3)):
            self.both(web, list(out), [], [])

    def test_points_without_ties_are_parts_alone(self):
        alone = [[point] for point in range(24)]
        self.both(Web(24, []), [], alone, alone)
        self.both(Web(24, []), [23, 0], alone[1:23], alone[1:23])

    def test_a_point_that_loses_its_ties_is_a_part_alone(self):
        web = Web(4, [(0, 1, 1), (1, 2, 1), (2, 3, 1)])
        self.both(web, [1], [[0], [2, 3]], [[0]])

    def test_a_part_falls_apart_where_a_point_is_out(self):
        star = Web(5, [(2, 0, 1), (2, 1, 1), (3, 2, 1), (2, 4, 1)])
        self.both(star, [], [[0, 1, 2, 3, 4]], [[0, 1, 2, 3, 4]])
        self.both(star, [2], [[0], [1], [3], [4]], [[0], [1], [3], [4]])

    def test_a_ring_holds_together_where_one_point_is_out(self):
        ring = Web(6, [(point, (point + 1) % 6, 0) for point in range(6)])
        self.both(ring, [3], [[0, 1, 2, 4, 5]], [[0, 1, 2, 4, 5]])
        self.both(ring, [3, 0], [[1, 2], [4, 5]], [])
        self.both(ring, [4, 0], [[1, 2, 3], [5]], [[1, 2, 3], [5]])

    def test_each_part_is_rising_and_told_by_its_first_point(self):
        web = Web(12, [(11, 0, 1), (10, 2, 1), (2, 9, 1), (1, 8, 1), (8, 3, 1), (3, 10, 1), (7, 5, 1)])
        self.both(
            web,
            [],
            [[0, 11], [1, 2, 3, 8, 9, 10], [4], [5, 7], [6]],
            [[4], [6]],
        )

    def test_no_odd_part(self):
        self.both(Web(4, [(0, 3, 1), (2, 1, 1)]), [], [[0, 3], [1, 2]], [])

    def test_a_row_of_24_points(self):
        row = Web(24, [(point, point + 1, 1) for point in range(23)])
        self.both(row, [], [list(range(24))], [])
        self.both(row, [12], [list(range(12)), list(range(13, 24))], [list(range(13, 24))])

    def test_all_ties_of_24_points(self):
        full = Web(24, [(a, b, 1) for a, b in itertools.combinations(range(24), 2)])
        self.both(full, [], [list(range(24))], [])
        self.both(full, [0], [list(range(1, 24))], [list(range(1, 24))])

    def test_weights_play_no_part(self):
        for weight in (0, -1, 10**60 - 1, 1 - 10**60):
            self.both(Web(3, [(0, 2, weight)]), [], [[0, 2], [1]], [[1]])

    def test_names_of_arguments(self):
        for function in (parts, odd_parts):
            self.assertEqual(list(inspect.signature(function).parameters), ["web", "out"])


class BelongingTest(unittest.TestCase):
    def setUp(self):
        self.web = Web(6, [(4, 0, 1), (0, 2, 1), (1, 3, 1)])

    def test_the_points_out_stay_as_they_were_handed_in(self):
        for function in (parts, odd_parts):
            for out in itertools.permutations([5, 0, 3]):
                handed = list(out)
                function(self.web, handed)
                self.assertEqual(handed, list(out))

    def test_the_lists_told_may_be_changed_afterwards(self):
        for function in (parts, odd_parts):
            for out in ([], [0], [5, 1]):
                before = [list(part) for part in function(self.web, out)]
                ties = self.web.ties()
                told = function(self.web, out)
                for part in told:
                    part.append(9)
                    part.reverse()
                self.assertEqual(function(self.web, out), before)
                told.clear()
                self.assertEqual(function(self.web, out), before)
                self.assertEqual(self.web.ties(), ties)
                self.assertEqual([self.web.tied(point) for point in range(6)], [[2, 4], [3], [0], [1], [0], []])

    def test_odd_parts_don_t_share_their_lists_with_parts(self):
        told = parts(self.web, [])
        for part in odd_parts(self.web, []):
            part.clear()
        self.assertEqual(parts(self.web, []), told)
        self.assertEqual(told, [[0, 2, 4], [1, 3], [5]])

    def test_the_same_asked_again_is_answered_the_same(self):
        for function in (parts, odd_parts):
            for out in ([], [1], [4, 3]):
                first = function(self.web, out)
                function(self.web, [2])
                self.assertEqual(function(self.web, out), first)

    def test_the_points_out_may_be_changed_afterwards(self):
        out = [0]
        told = parts(self.web, out)
        out.append(1)
        self.assertEqual(told, [[1, 3], [2], [4], [5]])


if __name__ == "__main__":
    unittest.main()
