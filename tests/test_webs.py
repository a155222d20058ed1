import inspect
import itertools
import unittest

from pairsheath.errors import BadTie, TooMany, Twice
from pairsheath.webs import Web
from trying import FAR_OFF, SIXTY


def all_ties(many):
    return [(a, b, 100 * a + b) for a, b in itertools.combinations(range(many), 2)]


class WebCase(unittest.TestCase):
    def refused(self, refusal, many, ties):
        with self.assertRaises(refusal) as taken:
            Web(many, ties)
        self.assertIs(type(taken.exception), refusal)


class SizeRefusedTest(WebCase):
    def test_the_sizes_from_0_to_24_are_taken(self):
        for many in range(25):
            self.assertEqual(Web(many, []).size(), many)

    def test_lesser_and_greater_sizes_are_refused(self):
        for many in (-1, -2, 25, 26) + FAR_OFF:
            self.refused(TooMany, many, [])

    def test_the_size_goes_ahead_of_bad_tuples(self):
        bad = (
            [(0, 0, 1)],
            [(0, SIXTY, 1)],
            [(-1, 0, 1)],
            [(0, 1, 1), (0, 1, 1)],
            [(0, 1, 1), (1, 0, 2), (3, 3, 3)],
        )
        for many in (-1, 25) + FAR_OFF:
            for ties in bad:
                self.refused(TooMany, many, ties)


class TieRefusedTest(WebCase):
    def test_an_end_that_is_no_point(self):
        for many in (1, 2, 5, 24):
            for end in (many, many + 1, -1, -many) + FAR_OFF:
                self.refused(BadTie, many, [(0, end, 1)])
                self.refused(BadTie, many, [(end, 0, 1)])
                self.refused(BadTie, many, [(many - 1, end, 1)])
                self.refused(BadTie, many, [(end, many - 1, 1)])

    def test_both_ends_are_no_points(self):
        ends = (3, -1) + FAR_OFF
        for a in ends:
            for b in ends:
                self.refused(BadTie, 3, [(a, b, 1)])

    def test_both_ends_alike(self):
        for many in (1, 2, 24):
            for point in range(many):
                self.refused(BadTie, many, [(point, point, 0)])

    def test_a_web_without_points_takes_no_tie(self):
        for ends in ((0, 1), (0, 0), (-1, 0), (-1, -2)):
            self.refused(BadTie, 0, [ends + (1,)])

    def test_a_bad_tie_behind_good_ones(self):
        self.refused(BadTie, 3, [(0, 1, 1), (1, 2, 1), (2, 3, 1)])
        self.refused(BadTie, 3, [(0, 1, 1), (1, 2, 1), (1, 1, 1)])

    def test_the_same_two_ends_twice(self):
        for first in ((0, 1), (1, 0)):
            for second in ((0, 1), (1, 0)):
                for weight in (5, 6, 0, -5, SIXTY):
                    self.refused(Twice, 2, [first + (5,), second + (weight,)])

    def test_twice_with_other_ties_between(self):
        self.refused(Twice, 24, all_ties(24) + [(23, 22, 1)])
        self.refused(Twice, 4, [(3, 1, 0), (0, 1, 0), (2, 3, 0), (1, 3, 0)])

    def test_the_weight_nought_counts_as_a_tie(self):
        self.refused(Twice, 2, [(0, 1, 0), (0, 1, 0)])

    def test_the_first_bad_tuple_is_refused(self):
        good = (0, 1, 5)
        again = ((0, 1, 5), (1, 0, 5), (1, 0, 7))
        bad = ((2, 2, 5), (0, 3, 5), (-1, 0, 5), (SIXTY, 1, 5), (1, -SIXTY, 5))
        for twice in again:
            for tie in bad:
                self.refused(Twice, 3, [good, twice, tie])
                self.refused(Twice, 3, [good, (1, 2, 0), twice, (0, 2, 0), tie])
                self.refused(BadTie, 3, [good, tie, twice])
                self.refused(BadTie, 3, [tie, good, twice])

    def test_a_bad_tie_told_twice_is_a_bad_tie(self):
        self.refused(BadTie, 3, [(2, 2, 1), (2, 2, 1)])
        self.refused(BadTie, 3, [(0, 3, 1), (3, 0, 1)])


class ToldTest(WebCase):
    def test_a_web_without_ties(self):
        for many in (0, 1, 24):
            web = Web(many, [])
            self.assertEqual(web.ties(), [])
            self.assertEqual([web.tied(point) for point in range(many)], [[]] * many)
            self.assertIsNone(web.weight(0, 1))

    def test_all_ties_of_24_points(self):
        turned = [(b, a, weight) for a, b, weight in reversed(all_ties(24))]
        for ties in (all_ties(24), turned):
            web = Web(24, ties)
            self.assertEqual(web.size(), 24)
            self.assertEqual(web.ties(), all_ties(24))
            for a, b, weight in all_ties(24):
                self.assertEqual(web.weight(a, b), weight)
                self.assertEqual(web.weight(b, a), weight)
            for point in range(24):
                others = [other for other in range(24) if other != point]
                self.assertEqual(web.tied(point), others)

    def test_ties_are_sorted_whatever_order_they_came_in(self):
        wanted = [(0, 2, 9), (0, 11, -4), (1, 3, 0), (2, 10, 7)]
        for some in itertools.permutations(wanted):
            for turns in itertools.product((False, True), repeat=len(some)):
                ties = [(b, a, w) if turn else (a, b, w) for (a, b, w), turn in zip(some, turns)]
                web = Web(12, ties)
                self.assertEqual(web.ties(), wanted)
                self.assertEqual(web.tied(0), [2, 11])
                self.assertEqual(web.tied(2), [0, 10])

    def test_ties_are_tuples_in_a_list(self):
        told = Web(3, [(2, 0, 1)]).ties()
        self.assertIs(type(told), list)
        self.assertIs(type(told[0]), tuple)

    def test_weights_in_either_order(self):
        for weight in (0, 1, -1, SIXTY, -SIXTY, 10**59, -(10**59)):
            for tie in ((0, 2, weight), (2, 0, weight)):
                web = Web(3, [tie])
                self.assertEqual(web.weight(0, 2), weight)
                self.assertEqual(web.weight(2, 0), weight)
                self.assertEqual(web.ties(), [(0, 2, weight)])
                self.assertEqual(web.tied(2), [0])

    def test_no_weight_where_there_is_no_tie(self):
        web = Web(3, [(0, 1, 4), (1, 2, 0)])
        self.assertIsNone(web.weight(0, 2))
        self.assertIsNone(web.weight(2, 0))

    def test_no_weight_where_both_are_alike(self):
        web = Web(3, [(0, 1, 4), (1, 2, 0)])
        for alike in (0, 1, 2, 3, -1) + FAR_OFF:
            self.assertIsNone(web.weight(alike, alike))

    def test_no_weight_where_one_or_both_are_no_point(self):
        web = Web(3, [(0, 1, 4), (1, 2, 0), (0, 2, 5)])
        strangers = (3, 4, 24, 25, -1, -2, -3) + FAR_OFF
        for stranger in strangers:
            for number in (0, 1, 2) + strangers:
                self.assertIsNone(web.weight(stranger, number))
                self.assertIsNone(web.weight(number, stranger))

    def test_points_tied_to_a_point_are_rising(self):
        web = Web(12, [(5, 11, 1), (0, 5, 1), (10, 5, 1), (5, 2, 1), (9, 5, 1), (1, 2, 1)])
        self.assertEqual(web.tied(5), [0, 2, 9, 10, 11])
        self.assertEqual(web.tied(2), [1, 5])
        self.assertEqual(web.tied(0), [5])
        self.assertEqual(web.tied(3), [])

    def test_names_of_arguments(self):
        self.assertEqual(list(inspect.signature(Web).parameters), ["many", "ties"])
        self.assertEqual(list(inspect.signature(Web.weight).parameters), ["self", "a", "b"])
        self.assertEqual(list(inspect.signature(Web.tied).parameters), ["self", "a"])
        for method in (Web.size, Web.ties):
            self.assertEqual(list(inspect.signature(method).parameters), ["self"])


class BelongingTest(WebCase):
    def told(self, web):
        points = range(web.size())
        weights = [[web.weight(a, b) for b in points] for a in points]
        # Copies, so that a list the web still holds can't change along with it.
        return (web.size(), list(web.ties()), weights, [list(web.tied(a)) for a in points])

    def test_the_list_handed_in_is_only_looked_at(self):
        ties = [(2, 1, 5), (1, 0, -6)]
        before = list(ties)
        Web(3, ties)
        self.assertEqual(ties, before)

    def test_a_refused_list_is_only_looked_at(self):
        ties = [(2, 1, 5), (1, 2, -6)]
        before = list(ties)
        self.refused(Twice, 3, ties)
        self.assertEqual(ties, before)

    def test_the_list_handed_in_may_be_changed_afterwards(self):
        changed = ([], [(0, 2, 8)], [(1, 2, -6), (0, 1, 5)], [(0, 1, 9), (1, 2, -6)])
        for given in ([(0, 1, 5), (1, 2, -6)], [(2, 1, -6), (1, 0, 5)], []):
            for becomes in changed:
                ties = list(given)
                web = Web(3, ties)
                before = self.told(web)
                ties[:] = becomes
                self.assertEqual(self.told(web), before)
                self.assertEqual(ties, becomes)

    def test_the_lists_told_may_be_changed_afterwards(self):
        web = Web(4, [(0, 1, 5), (1, 2, -6)])
        before = self.told(web)
        web.ties().append((0, 2, 8))
        web.ties().clear()
        for point in range(4):
            web.tied(point).append(3)
            web.tied(point).clear()
        self.assertEqual(self.told(web), before)

    def test_no_list_told_is_the_one_that_came_in(self):
        ties = [(0, 1, 5), (1, 2, -6)]
        web = Web(3, ties)
        self.assertIsNot(web.ties(), ties)
        self.assertIsNot(web.ties(), web.ties())
        self.assertIsNot(web.tied(1), web.tied(1))

    def test_the_same_asked_again_is_answered_the_same(self):
        ties = [(3, 1, 5), (1, 2, -SIXTY), (0, 3, 0)]
        web = Web(4, ties)
        first = self.told(web)
        self.assertEqual(self.told(web), first)
        self.assertEqual(self.told(Web(4, ties)), first)

    def test_webs_of_one_list_don_t_share_what_they_keep(self):
        ties = [(0, 1, 5)]
        first = Web(2, ties)
        ties.append((1, 2, 7))
        second = Web(3, ties)
        self.assertEqual(first.ties(), [(0, 1, 5)])
        self.assertEqual(first.tied(1), [0])
        self.assertEqual(second.ties(), [(0, 1, 5), (1, 2, 7)])
        self.assertEqual(second.tied(1), [0, 2])


if __name__ == "__main__":
    unittest.main()
