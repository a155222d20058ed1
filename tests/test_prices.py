import copy
import inspect
import itertools
import random
import unittest

from pairsheath.prices import cut_price, cut_sum, inner_price, inner_sum
from trying import SIXTY, by_words, every_choice, full_web, sums_by_words

GREAT = 10**400 + 7


def chance_prices(chance, many, numbers):
    """Any prices over so many points."""
    points = [chance.choice((1, -1)) * chance.choice(numbers) for point in range(many)]
    sets = {}
    for times in range(chance.randrange(6)):
        length = chance.randrange(3, many + 1, 2)
        sets[tuple(sorted(chance.sample(range(many), length)))] = 1 + chance.choice(numbers)
    listed = [(list(members), price) for members, price in sets.items()]
    chance.shuffle(listed)
    return (chance.choice((1, 2, 7, SIXTY)), points, listed)


class PricesCase(unittest.TestCase):
    def hold(self, prices, a, b, cut, inner):
        """Both prices of two points, in either order."""
        for ends in ((a, b), (b, a)):
            for told, awaited in ((cut_price(prices, *ends), cut), (inner_price(prices, *ends), inner)):
                self.assertIs(type(told), int)
                self.assertEqual(told, awaited, (prices, ends))

    def hold_sums(self, prices, cut, inner):
        for told, awaited in ((cut_sum(prices), cut), (inner_sum(prices), inner)):
            self.assertIs(type(told), int)
            self.assertEqual(told, awaited, prices)

    def hold_all(self, prices):
        """All that prices tell, held against the words."""
        for a, b in itertools.combinations(range(len(prices[1])), 2):
            self.hold(prices, a, b, *by_words(prices, a, b))
        self.hold_sums(prices, *sums_by_words(prices))


class TwoPointsTest(PricesCase):
    def test_no_sets(self):
        prices = (1, [5, -8, 0, 20], [])
        self.hold(prices, 0, 1, -3, -3)
        self.hold(prices, 0, 2, 5, 5)
        self.hold(prices, 1, 3, 12, 12)
        self.hold(prices, 2, 3, 20, 20)

    def test_one_set(self):
        prices = (2, [1, 10, 100, 1000, -4], [([0, 1, 2], 7)])
        self.hold(prices, 0, 1, 11, 18)
        self.hold(prices, 1, 2, 110, 117)
        self.hold(prices, 0, 3, 1008, 1001)
        self.hold(prices, 2, 4, 103, 96)
        self.hold(prices, 3, 4, 996, 996)

    def test_several_sets(self):
        prices = (3, [0, 0, 0, 0, 0, 0, 0], [([0, 1, 2], 1), ([2, 3, 4], 10), ([0, 2, 4, 5, 6], 100)])
        self.hold(prices, 0, 1, 100, 1)
        self.hold(prices, 0, 2, 10, 101)
        self.hold(prices, 2, 4, 1, 110)
        self.hold(prices, 1, 3, 11, 0)
        self.hold(prices, 5, 6, 0, 100)
        self.hold(prices, 2, 5, 11, 100)

    def test_sets_within_sets(self):
        prices = (1, [2, 2, 2, 2, 2, 2, 2, 2], [([1, 2, 3], 5), ([1, 2, 3, 4, 5], 70), ([1, 2, 3, 4, 5, 6, 7], 900)])
        self.hold(prices, 1, 2, 4, 979)
        self.hold(prices, 3, 4, 9, 974)
        self.hold(prices, 4, 5, 4, 974)
        self.hold(prices, 3, 6, 79, 904)
        self.hold(prices, 5, 7, 74, 904)
        self.hold(prices, 0, 1, 979, 4)
        self.hold(prices, 0, 4, 974, 4)
        self.hold(prices, 0, 7, 904, 4)

    def test_prices_below_nought(self):
        prices = (1, [-7, -1, -SIXTY], [([0, 1, 2], 3)])
        self.hold(prices, 0, 1, -8, -5)
        self.hold(prices, 0, 2, -7 - SIXTY, -4 - SIXTY)
        self.hold_all(prices)

    def test_long_numbers(self):
        prices = (SIXTY, [SIXTY, GREAT, -SIXTY, -GREAT], [([0, 1, 2], GREAT), ([1, 2, 3], SIXTY)])
        self.hold(prices, 0, 1, 2 * SIXTY + GREAT, SIXTY + 2 * GREAT)
        self.hold(prices, 0, 3, SIXTY - GREAT + GREAT + SIXTY, SIXTY - GREAT)
        self.hold(prices, 1, 2, GREAT - SIXTY, 2 * GREAT)
        self.hold_all(prices)
        long = 10**3998
        self.hold((1, [long, long, 5], [([0, 1, 2], long)]), 0, 1, 2 * long, 3 * long)

    def test_under_plays_no_part(self):
        for under in (1, 2, 3, SIXTY):
            prices = (under, [4, 6, 1, 0], [([0, 1, 3], 9)])
            self.hold(prices, 0, 1, 10, 19)
            self.hold(prices, 0, 2, 14, 5)
            self.hold_sums(prices, 20, 20)

    def test_sets_in_any_order(self):
        sets = [([0, 1, 2], 1), ([0, 1, 2, 3, 4], 20), ([2, 3, 4], 300)]
        for order in itertools.permutations(sets):
            prices = (1, [0, 1, 0, 1, 0], list(order))
            self.hold(prices, 0, 1, 1, 22)
            self.hold(prices, 0, 3, 302, 21)
            self.hold_sums(prices, 323, 343)

    def test_any_prices(self):
        chance = random.Random(41)
        for numbers in ((0, 1, 2, 3), (1, 1000, SIXTY), (0, SIXTY, GREAT)):
            for times in range(100):
                self.hold_all(chance_prices(chance, chance.choice((3, 4, 5, 8, 13, 24)), numbers))


class SumsTest(PricesCase):
    def test_no_points(self):
        self.hold_sums((1, [], []), 0, 0)
        self.hold_sums((5, [], []), 0, 0)

    def test_no_sets(self):
        self.hold_sums((1, [5, -8, 0, 20], []), 17, 17)
        self.hold_sums((2, [-3], []), -3, -3)

    def test_sets_of_three_five_and_twenty_three_points(self):
        points = [1] * 24
        self.hold_sums((1, points, [([0, 1, 2], 10)]), 34, 34)
        self.hold_sums((1, points, [([3, 5, 8, 13, 21], 10)]), 34, 44)
        self.hold_sums((1, points, [(list(range(23)), 10)]), 34, 134)
        self.hold_sums((1, points, [(list(range(1, 24)), 10)]), 34, 134)
        sets = [([0, 1, 2], 10), ([3, 5, 8, 13, 21], 200), (list(range(23)), 3000)]
        self.hold_sums((1, points, sets), 24 + 3210, 24 + 10 + 400 + 33000)

    def test_sets_within_sets(self):
        prices = (1, [2, 2, 2, 2, 2, 2, 2, 2], [([1, 2, 3], 5), ([1, 2, 3, 4, 5], 70), ([1, 2, 3, 4, 5, 6, 7], 900)])
        self.hold_sums(prices, 16 + 975, 16 + 5 + 140 + 2700)

    def test_prices_below_nought(self):
        self.hold_sums((1, [-7, -1, -SIXTY], [([0, 1, 2], 3)]), -5 - SIXTY, -5 - SIXTY)
        self.hold_sums((1, [-4, -4, -4, -4, -4], [([0, 1, 2, 3, 4], 3)]), -17, -14)

    def test_long_numbers(self):
        prices = (1, [SIXTY] * 24, [(list(range(23)), SIXTY), ([0, 1, 2, 3, 4], GREAT)])
        self.hold_sums(prices, 25 * SIXTY + GREAT, 35 * SIXTY + 2 * GREAT)

    def test_sums_of_prices_bound_the_choices(self):
        # With each tie's weight told by the prices of its ends, a choice of all points comes to no less than the cut
        # sum, and any choice to no more than the inner sum where no point's price is below nought.
        chance = random.Random(42)
        choices = every_choice(full_web(6))
        for times in range(50):
            under, points, sets = chance_prices(chance, 6, (0, 1, 5, 30))
            prices = (under, [abs(price) for price in points], sets)
            for pairs in choices:
                self.assertLessEqual(sum(inner_price(prices, a, b) for a, b in pairs), inner_sum(prices))
                if len(pairs) == 3:
                    self.assertGreaterEqual(sum(cut_price(prices, a, b) for a, b in pairs), cut_sum(prices))


class BelongingTest(PricesCase):
    def setUp(self):
        self.prices = (2, [3, -1, 4, 1, -5], [([2, 3, 4], 9), ([0, 1, 2, 3, 4], 2)])

    def told(self, prices):
        couples = list(itertools.permutations(range(5), 2))
        return [[cut_price(prices, a, b) for a, b in couples], [inner_price(prices, a, b) for a, b in couples],
                cut_sum(prices), inner_sum(prices)]

    def test_names_of_arguments(self):
        for function in (cut_price, inner_price):
            self.assertEqual(list(inspect.signature(function).parameters), ["prices", "a", "b"])
        for function in (cut_sum, inner_sum):
            self.assertEqual(list(inspect.signature(function).parameters), ["prices"])

    def test_what_is_handed_in_stays_as_it_was(self):
        before = copy.deepcopy(self.prices)
        self.told(self.prices)
        self.assertEqual(self.prices, before)

    def test_prices_go_by_what_they_are_when_they_are_asked(self):
        self.told(self.prices)
        self.prices[1][0] = 50
        self.prices[2].append(([0, 1, 2], 100))
        self.hold_all(self.prices)
        self.prices[2].clear()
        self.hold_all(self.prices)

    def test_the_same_asked_again_is_answered_the_same(self):
        first = self.told(self.prices)
        self.told((1, [0] * 5, []))
        self.assertEqual(self.told(self.prices), first)
        self.assertEqual(self.told(copy.deepcopy(self.prices)), first)


if __name__ == "__main__":
    unittest.main()
