import copy
import itertools
import random
import unittest

from pairsheath.families import (
    groups_of, has_both, has_just_one, inside, is_inner, is_met, lies_within, most_within, outermost,
)

# 1 2 3 within 1 2 3 4 5, and 7 8 9 beside these.
NEST = [[7, 8, 9], [1, 2, 3], [1, 2, 3, 4, 5]]


def chance_nest(chance, points):
    """A nested family of sets of an odd number of these points, three or more."""
    groups = [[point] for point in points]
    sets = []
    while len(groups) > 2 and chance.randrange(5):
        joined = chance.sample(groups, chance.randrange(3, len(groups) + 1, 2))
        groups = [group for group in groups if group not in joined]
        members = sorted(point for group in joined for point in group)
        groups.append(members)
        sets.append(members)
    chance.shuffle(sets)
    return sets, sorted(groups)


class SetsTest(unittest.TestCase):
    def test_two_points_and_a_set(self):
        members = [1, 4, 6]
        for a, b in itertools.permutations(range(8), 2):
            there = len({a, b} & set(members))
            self.assertIs(has_both(members, a, b), there == 2)
            self.assertIs(has_just_one(members, a, b), there == 1)

    def test_room_for_pairs(self):
        for many in range(1, 25, 2):
            self.assertEqual(2 * most_within(list(range(many))) + 1, many)

    def test_sets_that_lie_within_others(self):
        every = [list(some) for length in range(5) for some in itertools.combinations(range(4), length)]
        for inner, outer in itertools.product(every, repeat=2):
            self.assertIs(lies_within(inner, outer), set(inner) <= set(outer))


class FamiliesTest(unittest.TestCase):
    def test_sets_inside_a_set(self):
        self.assertEqual(inside(NEST, [1, 2, 3, 4, 5]), [[1, 2, 3]])
        self.assertEqual(inside(NEST, [1, 2, 3]), [])
        self.assertEqual(inside(NEST, list(range(10))), NEST)
        self.assertEqual(inside([], [1, 2, 3]), [])

    def test_outermost_sets(self):
        self.assertEqual(outermost(NEST), [[7, 8, 9], [1, 2, 3, 4, 5]])
        self.assertEqual(outermost([]), [])
        self.assertEqual(outermost([[1, 2, 3], list(range(9)), [0, 1, 2, 3, 4]]), [list(range(9))])

    def test_sets_and_points_of_a_family(self):
        self.assertEqual([is_inner(NEST, members) for members in NEST], [False, True, False])
        self.assertIs(is_inner(NEST, [8, 9]), True)
        self.assertIs(is_inner([], [1, 2, 3]), False)
        self.assertEqual([point for point in range(11) if is_met(NEST, point)], [1, 2, 3, 4, 5, 7, 8, 9])
        self.assertIs(is_met([], 0), False)

    def test_groups(self):
        self.assertEqual(groups_of(range(11), NEST), [[0], [1, 2, 3, 4, 5], [6], [7, 8, 9], [10]])
        self.assertEqual(groups_of([1, 2, 3, 4, 5], inside(NEST, [1, 2, 3, 4, 5])), [[1, 2, 3], [4], [5]])
        self.assertEqual(groups_of([1, 2, 3], inside(NEST, [1, 2, 3])), [[1], [2], [3]])
        self.assertEqual(groups_of(range(3), []), [[0], [1], [2]])
        self.assertEqual(groups_of([0, 1, 2], [[0, 1, 2]]), [[0, 1, 2]])
        self.assertEqual(groups_of([], []), [])

    def test_any_nested_families(self):
        chance = random.Random(51)
        for times in range(300):
            points = sorted(chance.sample(range(24), chance.randrange(25)))
            sets, groups = chance_nest(chance, points)
            self.assertEqual(groups_of(points, sets), groups)
            self.assertEqual(sorted(outermost(sets)), [group for group in groups if len(group) > 1])
            for whole in sets:
                self.assertEqual(inside(sets, whole), [members for members in sets if set(members) < set(whole)])

    def test_what_is_handed_in_stays_as_it_was(self):
        sets = copy.deepcopy(NEST)
        points = list(range(11))
        groups = groups_of(points, sets)
        inside(sets, points)
        outermost(sets)
        for group in groups:
            group.append(99)
        self.assertEqual(sets, NEST)
        self.assertEqual(points, list(range(11)))


if __name__ == "__main__":
    unittest.main()
