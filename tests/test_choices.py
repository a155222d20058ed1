import inspect
import itertools
import random
import unittest

from pairsheath import choices
from pairsheath.choices import is_choice, left, partner, worth
from pairsheath.webs import Web
from trying import ENDLESS, FAR_OFF, SIXTY, chance_choice, chance_web, every_choice, every_web, full_web, seen


class IsChoiceTest(unittest.TestCase):
    def is_one(self, web, pairs):
        self.assertIs(is_choice(web, pairs), True, pairs)

    def is_none(self, web, pairs):
        self.assertIs(is_choice(web, pairs), False, pairs)

    def setUp(self):
        self.web = Web(6, [(0, 1, 5), (1, 2, -3), (2, 3, 0), (4, 3, 9), (5, 4, 1), (0, 5, 2), (1, 4, 4)])

    def test_no_pairs_are_a_choice_of_every_web(self):
        for many in range(5):
            for web in every_web(many):
                self.is_one(web, [])
        self.is_one(Web(24, []), [])
        self.is_one(full_web(24), [])

    def test_sorted_ties_that_share_no_point(self):
        for pairs in ([(0, 1)], [(2, 3)], [(1, 2), (3, 4)], [(0, 1), (2, 3), (4, 5)], [(0, 5), (1, 4), (2, 3)]):
            self.is_one(self.web, pairs)
        self.is_one(full_web(24), [(2 * at, 2 * at + 1) for at in range(12)])
        self.is_one(full_web(24), [(at, 23 - at) for at in range(12)])

    def test_every_list_of_tuples_for_small_webs(self):
        for many in range(4):
            ends = range(-1, many + 1)
            couples = list(itertools.product(ends, ends))
            lists = [list(some) for length in range(3) for some in itertools.product(couples, repeat=length)]
            for web in every_web(many):
                known = every_choice(web)
                for pairs in lists:
                    self.assertIs(is_choice(web, pairs), pairs in known, pairs)

    def test_every_set_of_ties_of_the_full_web_of_five_points(self):
        web = full_web(5)
        known = every_choice(web)
        couples = list(itertools.combinations(range(5), 2))
        for length in range(4):
            for some in itertools.permutations(couples, length):
                self.assertIs(is_choice(web, list(some)), list(some) in known, some)

    def test_out_of_order(self):
        pairs = [(0, 1), (2, 3), (4, 5)]
        for turned in itertools.permutations(pairs):
            self.assertIs(is_choice(self.web, list(turned)), list(turned) == pairs)
        self.is_none(self.web, [(3, 4), (1, 2)])

    def test_the_greater_end_first(self):
        self.is_none(self.web, [(1, 0)])
        self.is_none(self.web, [(5, 0)])
        self.is_none(self.web, [(0, 1), (3, 2)])
        self.is_none(self.web, [(1, 0), (2, 3), (4, 5)])

    def test_a_pair_told_twice(self):
        self.is_none(self.web, [(0, 1), (0, 1)])
        self.is_none(self.web, [(0, 1), (2, 3), (2, 3)])
        self.is_none(self.web, [(0, 1), (1, 0)])

    def test_two_points_that_are_not_tied(self):
        self.is_none(self.web, [(0, 2)])
        self.is_none(self.web, [(0, 1), (3, 5)])
        self.is_none(Web(24, []), [(0, 1)])

    def test_both_ends_alike(self):
        for point in range(6):
            self.is_none(self.web, [(point, point)])
        self.is_none(self.web, [(0, 1), (2, 2)])
        for stranger in (-1, 6) + FAR_OFF:
            self.is_none(self.web, [(stranger, stranger)])

    def test_two_pairs_that_share_a_point(self):
        for pairs in ([(0, 1), (0, 5)], [(0, 1), (1, 2)], [(1, 2), (1, 4)], [(1, 4), (3, 4)], [(0, 5), (4, 5)]):
            self.is_none(self.web, pairs)
        self.is_none(self.web, [(0, 1), (2, 3), (3, 4)])
        self.is_none(self.web, [(0, 1), (2, 3), (4, 5), (4, 5)])
        self.is_none(full_web(24), [(0, 1), (2, 3), (4, 23), (5, 23)])
        self.is_none(full_web(24), [(0, 9), (2, 3), (4, 23), (5, 9)])

    def test_an_end_that_is_no_point(self):
        for stranger in (-1, -6, 6, 7, 24) + FAR_OFF:
            for point in range(6):
                self.is_none(self.web, [(point, stranger)])
                self.is_none(self.web, [(stranger, point)])
                self.is_none(self.web, sorted([(2, 3), (0, stranger)]))
                self.is_none(self.web, sorted([(2, 3), (stranger, 0)]))
            for other in (-1, 6) + FAR_OFF:
                self.is_none(self.web, [(stranger, other)])
        self.is_none(Web(0, []), [(0, 1)])


class ToldTest(unittest.TestCase):
    def test_worth_of_no_pairs(self):
        for web in (Web(0, []), Web(24, []), full_web(24, SIXTY)):
            told = worth(web, [])
            self.assertEqual(told, 0)
            self.assertIs(type(told), int)

    def test_worth_is_the_sum_of_the_weights(self):
        web = Web(6, [(0, 1, 5), (2, 1, -3), (2, 3, 0), (4, 3, 9), (5, 4, -11)])
        self.assertEqual(worth(web, [(0, 1)]), 5)
        self.assertEqual(worth(web, [(1, 2)]), -3)
        self.assertEqual(worth(web, [(2, 3)]), 0)
        self.assertEqual(worth(web, [(1, 2), (3, 4)]), 6)
        self.assertEqual(worth(web, [(0, 1), (2, 3), (4, 5)]), -6)

    def test_worth_of_weights_of_sixty_figures(self):
        for first in (SIXTY, -SIXTY, 10**59, 1):
            for second in (SIXTY, -SIXTY, -1):
                web = Web(4, [(0, 3, first), (2, 1, second)])
                self.assertEqual(worth(web, [(0, 3), (1, 2)]), first + second)
        pairs = [(2 * at, 2 * at + 1) for at in range(12)]
        self.assertEqual(worth(full_web(24, SIXTY), pairs), 12 * SIXTY)
        self.assertEqual(worth(full_web(24, -SIXTY), pairs), -12 * SIXTY)

    def test_left_of_no_pairs_is_all_points(self):
        for many in range(25):
            self.assertEqual(left(Web(many, []), []), list(range(many)))

    def test_left_is_rising(self):
        web = full_web(12)
        self.assertEqual(left(web, [(2, 11), (3, 5)]), [0, 1, 4, 6, 7, 8, 9, 10])
        self.assertEqual(left(web, [(0, 1)]), [2, 3, 4, 5, 6, 7, 8, 9, 10, 11])
        self.assertEqual(left(web, [(at, 11 - at) for at in range(6)]), [])
        self.assertEqual(left(full_web(24), [(at, 22 - at) for at in range(11)]), [11, 23])

    def test_partner_of_both_ends_and_of_points_left_out(self):
        pairs = [(0, 9), (2, 5), (3, 4)]
        told = [partner(pairs, point) for point in range(10)]
        self.assertEqual(told, [9, None, 5, 4, 3, 2, None, None, None, 0])
        for point in range(24):
            self.assertIsNone(partner([], point))

    def test_all_of_small_webs(self):
        for web in every_web(4):
            for pairs in every_choice(web):
                told = left(web, pairs)
                self.assertEqual(told, sorted(told))
                self.assertEqual(len(told), 4 - 2 * len(pairs))
                for point in range(4):
                    mates = [a + b - point for a, b in pairs if point in (a, b)]
                    self.assertEqual(partner(pairs, point), mates[0] if mates else None)
                    self.assertEqual(point in told, not mates)
                self.assertEqual(worth(web, pairs), sum(a - b for a, b in pairs))

    def test_names_of_arguments(self):
        wanted = {"is_choice": ["web", "pairs"], "worth": ["web", "pairs"], "left": ["web", "pairs"],
                  "partner": ["pairs", "a"]}
        for name, arguments in wanted.items():
            self.assertEqual(list(inspect.signature(getattr(choices, name)).parameters), arguments)


class BelongingTest(unittest.TestCase):
    def setUp(self):
        self.web = full_web(6, -4)

    def told(self, pairs):
        partners = [partner(pairs, point) for point in range(6)]
        return (is_choice(self.web, pairs), worth(self.web, pairs), list(left(self.web, pairs)), partners)

    def test_what_is_handed_in_stays_as_it_was(self):
        for pairs in ([], [(0, 3)], [(0, 5), (1, 2)]):
            handed = list(pairs)
            web = seen(self.web)
            self.told(handed)
            self.assertEqual(handed, pairs)
            self.assertEqual(seen(self.web), web)
        for bad in ([(4, 5), (0, 1)], [(1, 0)], [(0, 1), (1, 2)], [(-1, ENDLESS)]):
            handed = list(bad)
            is_choice(self.web, handed)
            self.assertEqual(handed, bad)

    def test_the_list_told_may_be_changed_afterwards(self):
        for pairs in ([], [(0, 3)], [(0, 5), (1, 2), (3, 4)]):
            first = self.told(pairs)
            told = left(self.web, pairs)
            told.append(9)
            told.reverse()
            self.assertEqual(self.told(pairs), first)
            told.clear()
            self.assertEqual(self.told(pairs), first)

    def test_the_choice_handed_in_may_be_changed_afterwards(self):
        pairs = [(0, 3)]
        told = left(self.web, pairs)
        pairs.append((1, 2))
        self.assertEqual(told, [1, 2, 4, 5])
        self.assertEqual(left(self.web, pairs), [4, 5])
        self.assertEqual(partner(pairs, 2), 1)
        self.assertEqual(worth(self.web, pairs), -8)

    def test_the_same_asked_again_is_answered_the_same(self):
        chance = random.Random(8)
        for times in range(20):
            web = chance_web(chance, 6, 50)
            pairs = chance_choice(chance, web)
            first = self.told(pairs)
            self.told([])
            self.assertEqual(self.told(pairs), first)


if __name__ == "__main__":
    unittest.main()
