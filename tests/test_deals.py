import copy
import itertools
import random
import unittest

from pairsheath.deals import (
    dealt, first_prices, joined, lifted, lifts_of, room, sets_of, sides, step_of, tight_web,
)
from pairsheath.most import most
from pairsheath.webs import Web
from trying import SIXTY, WIDE, ToldCase, by_words, chance_web, full_web, round_ring, seen, weighed

# Two triangles of ties without cost, and a dear tie between them.
TRIANGLES = Web(6, [(a, b, 0) for a, b in round_ring([0, 1, 2]) + round_ring([3, 4, 5])] + [(2, 3, 7)])


class StepsTest(ToldCase):
    def test_first_prices(self):
        self.assertEqual(first_prices(Web(0, []))[1:], ([], []))
        self.assertEqual(first_prices(Web(3, []))[1:], ([0, 0, 0], []))
        for weight in (5, 0, -5, SIXTY, -SIXTY):
            web = Web(3, [(0, 1, weight), (1, 2, weight + 1)])
            self.assertEqual(first_prices(web), (2, [weight] * 3, []))
            self.assertEqual([tie[:2] for tie in tight_web(web, first_prices(web)).ties()], [(0, 1)])

    def test_room_and_tight_ties(self):
        prices = (2, [1, 2, 3, 0], [([0, 1, 2], 4)])
        self.assertEqual(room(prices, (0, 1, 5)), 7)
        self.assertEqual(room(prices, (0, 3, 5)), 5)
        web = Web(4, [(0, 1, 5), (0, 2, 2), (2, 3, 4), (1, 3, 3)])
        self.assertEqual(tight_web(web, prices).ties(), [(0, 2, 2), (1, 3, 3)])
        self.assertEqual(sets_of(prices), [[0, 1, 2]])

    def test_points_of_groups(self):
        self.assertEqual(joined([[4, 5, 6], [1], [0, 2, 3]], [0, 2]), [0, 2, 3, 4, 5, 6])
        self.assertEqual(joined([[4], [1]], []), [])
        self.assertEqual(lifts_of([[0, 2, 3], [5]], [[1], [4]]), {0: 1, 2: 1, 3: 1, 5: 1, 1: -1, 4: -1})

    def test_sides(self):
        self.assertEqual(sides(TRIANGLES, (2, [0] * 6, [])), ([[0, 1, 2], [3, 4, 5]], []))
        self.assertEqual(sides(TRIANGLES, (2, [0] * 6, [([0, 1, 2], 7), ([3, 4, 5], 7)])), ([], []))
        star = Web(6, [(0, 1, 1), (0, 2, 1), (0, 3, 1), (4, 5, 1)])
        self.assertEqual(sides(star, (2, [1] * 6, [])), ([[1], [2], [3]], [[0]]))
        # A set that falls: its points are beside both others.
        web = Web(5, [(0, 1, 0), (1, 2, 0), (0, 2, 0), (0, 3, 1), (1, 4, 1)])
        self.assertEqual(sides(web, (2, [0, 0, 0, 1, 1], [([0, 1, 2], 1)])), ([[3], [4]], [[0, 1, 2]]))

    def test_steps(self):
        prices = (2, [0] * 6, [])
        # Both rise: half of the room between them.
        self.assertEqual(step_of(TRIANGLES, prices, [[0, 1, 2], [3, 4, 5]], []), 7)
        # One rises: all the room; ties to what falls put no bound, the price of a set that falls does.
        self.assertEqual(step_of(TRIANGLES, prices, [[0, 1, 2]], []), 14)
        prices = (2, [0] * 6, [([0, 1, 2], 3), ([3, 4, 5], 2)])
        self.assertEqual(step_of(TRIANGLES, prices, [[3, 4, 5]], [[0, 1, 2]]), 3)
        self.assertEqual(step_of(TRIANGLES, prices, [[3, 4, 5]], []), 9)

    def test_lifted(self):
        prices = (2, [1, 2, 3, 4], [([0, 1, 2], 5)])
        kept = copy.deepcopy(prices)
        self.assertEqual(lifted(prices, [[3]], 2), (2, [1, 2, 3, 6], [([0, 1, 2], 5)]))
        self.assertEqual(lifted(prices, [[0, 1, 2]], 2), (2, [1, 2, 3, 4], [([0, 1, 2], 7)]))
        self.assertEqual(lifted(prices, [[0, 1, 2], [3]], -5), (2, [1, 2, 3, -1], []))
        self.assertEqual(lifted(prices, [[1, 2, 3]], 9), (2, [1, 2, 3, 4], [([0, 1, 2], 5), ([1, 2, 3], 9)]))
        told = lifted(prices, [], 0)
        self.assertEqual(told, prices)
        told[1].append(1)
        told[2][0][0].append(9)
        self.assertEqual(prices, kept)


class DealtTest(ToldCase):
    def hold_dealt(self, web):
        prices = dealt(web)
        self.hold_prices(web, prices)
        for a, b, weight in web.ties():
            self.assertLessEqual(by_words(prices, a, b)[0], prices[0] * weight)
        for one, other in itertools.combinations(sets_of(prices), 2):
            common = set(one) & set(other)
            self.assertIn(len(common), (0, min(len(one), len(other))))
        self.assertEqual(sides(web, prices), ([], []))

    def test_triangles(self):
        self.assertEqual(dealt(TRIANGLES), (2, [0] * 6, [([0, 1, 2], 7), ([3, 4, 5], 7)]))

    def test_no_points(self):
        self.assertEqual(dealt(Web(0, [])), (2, [], []))

    def test_any_webs(self):
        chance = random.Random(111)
        held = 0
        for times in range(150):
            many = chance.choice((4, 8, 12, 16))
            web = weighed(chance, chance_web(chance, many, chance.choice((30, 50, 100))), chance.choice((WIDE, (0, 1))))
            before = seen(web)
            if 2 * len(most(web)) == many:
                held += 1
                self.hold_dealt(web)
                self.assertEqual(seen(web), before)
        self.assertGreater(held, 50)

    def test_whole_numbers_stay_whole(self):
        # Two spare groups meet half way: the room between them is always even.
        for many in (4, 6, 8):
            for weights in itertools.product((0, 1), repeat=6):
                ties = [(a, b, weights[(a * b + a + b) % 6]) for a, b, weight in full_web(many).ties()]
                self.hold_dealt(Web(many, ties))


if __name__ == "__main__":
    unittest.main()
