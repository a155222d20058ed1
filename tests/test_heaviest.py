import copy
import inspect
import random
import unittest

from pairsheath.choices import worth
from pairsheath.heaviest import filled, gain, heaviest, inner_points, turned_inner
from pairsheath.prices import inner_price, inner_sum
from pairsheath.webs import Web
from trying import (
    LONG, NESTED, SIXTY, WIDE, ToldCase, along_row, by_words, chance_web, every_choice, every_web, full_web,
    greatest_worth, least_worth, planted, round_ring, seen, shapes, side_by_side, sums_by_words, web_of, weighed,
)


class HeaviestCase(ToldCase):
    def hold_reason(self, web, pairs, prices):
        """Hold prices against the words, point by point, tie by tie; this alone shows that no choice is heavier."""
        self.hold_prices(web, prices)
        for price in prices[1]:
            self.assertGreaterEqual(price, 0, (web.ties(), prices))
        for a, b, weight in web.ties():
            self.assertGreaterEqual(by_words(prices, a, b)[1], prices[0] * weight, (web.ties(), prices, a, b))
            self.assertEqual(inner_price(prices, a, b), by_words(prices, a, b)[1])
        total = sum(web.weight(a, b) for a, b in pairs)
        self.assertEqual(sums_by_words(prices)[1], prices[0] * total, (web.ties(), pairs, prices))
        self.assertEqual(inner_sum(prices), prices[0] * worth(web, pairs))

    def hold(self, web):
        """Hold what is told against the words; the worth."""
        told = heaviest(web)
        self.assertIs(type(told), tuple)
        pairs, prices = told
        self.hold_choice(web, pairs)
        self.hold_reason(web, pairs, prices)
        return worth(web, pairs)

    def hold_all(self, web):
        """Hold what is told against all choices of a web."""
        self.assertEqual(self.hold(web), max(worth(web, pairs) for pairs in every_choice(web)), web.ties())


class SmallTest(HeaviestCase):
    def test_every_web_of_up_to_five_points(self):
        chance = random.Random(81)
        for many in range(6):
            for web in every_web(many):
                for weights in ((1,), (0, 1, 2, 3), WIDE):
                    self.hold_all(weighed(chance, web, weights))

    def test_some_webs_of_six_to_nine_points(self):
        chance = random.Random(82)
        for many, times in ((6, 300), (7, 150), (8, 50), (9, 20)):
            for time in range(times):
                web = chance_web(chance, many, chance.choice((25, 45, 60, 80)))
                for weights in ((0, 1), (1, 2, 3), WIDE, LONG):
                    self.hold_all(weighed(chance, web, weights))

    def test_some_webs_of_ten_to_thirteen_points(self):
        chance = random.Random(83)
        for many, times in ((10, 30), (11, 30), (12, 10), (13, 8)):
            for time in range(times):
                web = chance_web(chance, many, chance.choice((15, 30, 50, 100)))
                for weights in ((1, 2, 3), WIDE):
                    web = weighed(chance, web, weights)
                    self.assertEqual(self.hold(web), greatest_worth(web), web.ties())

    def test_webs_without_points_and_without_ties(self):
        for many in range(25):
            pairs, prices = heaviest(Web(many, []))
            self.assertEqual(pairs, [])
            self.assertEqual(prices[1:], ([0] * many, []))
            self.assertEqual(self.hold(Web(many, [])), 0)

    def test_one_tie(self):
        for weight in (1, 2, 7, SIXTY):
            for many in (2, 3, 23, 24):
                web = Web(many, [(1, 0, weight)])
                self.assertEqual(heaviest(web)[0], [(0, 1)])
                self.assertEqual(self.hold(web), weight)
        for weight in (0, -1, -SIXTY):
            self.assertEqual(self.hold(Web(2, [(0, 1, weight)])), 0)

    def test_a_tie_below_nought_is_never_in_the_choice(self):
        chance = random.Random(84)
        for times in range(60):
            web = weighed(chance, chance_web(chance, 9, 50), (-1, -SIXTY, 1, 5))
            self.assertTrue(all(web.weight(a, b) > 0 for a, b in heaviest(web)[0]))

    def test_names_of_arguments(self):
        self.assertEqual(list(inspect.signature(heaviest).parameters), ["web"])


class ShapesTest(HeaviestCase):
    def test_webs_told_by_hand(self):
        chance = random.Random(85)
        for web, number in shapes():
            # With all weights alike and above nought, the heaviest choices are those of most pairs.
            for weight in (1, 6, SIXTY):
                self.assertEqual(self.hold(weighed(chance, web, (weight,))), number * weight)
            for weights in (WIDE, (0, 1), LONG):
                self.hold(weighed(chance, web, weights))

    def test_small_ones_of_them_against_all_choices(self):
        chance = random.Random(86)
        for web, number in shapes():
            if web.size() <= 8 or len(web.ties()) <= 12:
                for weights in (WIDE, (0, 1), LONG, (2, 3)):
                    self.hold_all(weighed(chance, web, weights))

    def test_a_row_of_which_the_middle_is_dear(self):
        for middle, awaited in ((9, [(1, 2)]), (7, [(0, 1), (2, 3)])):
            web = Web(4, [(0, 1, 4), (1, 2, middle), (2, 3, 4)])
            self.assertEqual(heaviest(web)[0], awaited)
            self.assertEqual(self.hold(web), max(8, middle))

    def test_odd_rings(self):
        chance = random.Random(87)
        for many in range(3, 24, 2):
            ring = chance.sample(range(many), many)
            for weights in ((5,), range(10, 15), range(1, 60), (SIXTY, SIXTY - 1)):
                web = weighed(chance, web_of(many, round_ring(ring)), weights)
                # A heaviest choice leaves out one point at least: without it the rest of the ring is a row.
                best = max(greatest_worth(part_of(web, ring, at)) for at in range(many))
                self.assertEqual(self.hold(web), best)
            # Prices of points alone would come to half of the ring.
            self.assertEqual([members for members, price in heaviest(full_ring(many))[1][2]], [list(range(many))])

    def test_odd_rings_within_odd_rings(self):
        chance = random.Random(88)
        for weights in ((10,), range(8, 12), range(1, 20), WIDE):
            for times in range(30):
                couples = [(a - 1, b - 1) for a, b in NESTED]
                self.hold_all(weighed(chance, web_of(7, couples), weights))
                self.hold_all(weighed(chance, web_of(8, [(0, 1)] + NESTED), weights))
        # Heavy rings about lighter ones: a set within a set has its price.
        web = Web(5, [(0, 1, 8), (1, 2, 8), (0, 2, 8), (2, 3, 5), (3, 4, 5), (1, 4, 5)])
        self.assertEqual(self.hold(web), 13)
        self.assertEqual(len(heaviest(web)[1][2]), 2)

    def test_weights_raised_all_alike(self):
        chance = random.Random(89)
        for times in range(30):
            many = chance.choice((9, 10))
            web = weighed(chance, chance_web(chance, many, 50), WIDE)
            for more in (-61, -20, 0, 1, 20, 61, SIXTY - 30):
                raised = Web(many, [(a, b, weight + more) for a, b, weight in web.ties()])
                self.assertEqual(self.hold(raised), greatest_worth(raised))

    def test_weights_raised_far_bring_the_dearest_of_all_paired(self):
        chance = random.Random(90)
        for times in range(20):
            web = weighed(chance, chance_web(chance, 10, 70), WIDE)
            turned = least_worth(Web(10, [(a, b, -weight) for a, b, weight in web.ties()]))
            raised = Web(10, [(a, b, weight + 1000) for a, b, weight in web.ties()])
            if turned is not None:
                self.assertEqual(self.hold(raised), 5000 - turned)

    def test_two_webs_side_by_side(self):
        chance = random.Random(91)
        for times in range(40):
            one = weighed(chance, chance_web(chance, chance.choice((9, 10)), 40), WIDE)
            other = weighed(chance, chance_web(chance, chance.choice((13, 14)), 30), chance.choice((LONG, (1, 2))))
            self.assertEqual(self.hold(side_by_side(one, other)), self.hold(one) + self.hold(other))
        for one, other in ((3, 3), (3, 5), (11, 13), (1, 23)):
            web = side_by_side(full_web(one, 2), full_web(other, 2))
            self.assertEqual(self.hold(web), one // 2 * 2 + other // 2 * 2)

    def test_whatever_the_numbers_of_the_points(self):
        chance = random.Random(92)
        for times in range(30):
            web = weighed(chance, chance_web(chance, 15, 40), WIDE)
            names = chance.sample(range(15), 15)
            turned = Web(15, [(names[a], names[b], weight) for a, b, weight in web.ties()])
            self.assertEqual(self.hold(turned), self.hold(web))


class WeightsTest(HeaviestCase):
    def test_all_weights_below_nought_or_nought(self):
        chance = random.Random(93)
        for weights in ((0,), (-1,), (-SIXTY,), (0, -1, -2), (0, -SIXTY)):
            for many in (2, 3, 8, 23, 24):
                for share in (20, 100):
                    self.assertEqual(self.hold(weighed(chance, chance_web(chance, many, share), weights)), 0)

    def test_weights_of_sixty_figures(self):
        chance = random.Random(94)
        for times in range(60):
            web = chance_web(chance, chance.choice((9, 10)), chance.choice((40, 70)))
            for bounds in ((-SIXTY, SIXTY), (SIXTY - 3, SIXTY)):
                web = Web(web.size(), [(a, b, chance.randint(*bounds)) for a, b, weight in web.ties()])
                self.assertEqual(self.hold(web), greatest_worth(web))

    def test_weights_of_sixty_figures_that_differ_by_one(self):
        web = Web(4, [(0, 1, SIXTY - 1), (1, 2, SIXTY), (2, 3, SIXTY - 1), (0, 3, SIXTY)])
        self.assertEqual(heaviest(web)[0], [(0, 3), (1, 2)])
        self.assertEqual(self.hold(web), 2 * SIXTY)


class GreatTest(HeaviestCase):
    def test_24_and_23_points_with_few_ties(self):
        chance = random.Random(95)
        for times in range(100):
            web = chance_web(chance, chance.choice((23, 24)), chance.choice((4, 8, 12, 20)))
            self.hold(weighed(chance, web, chance.choice(((0, 1), (1, 2, 3), WIDE, LONG))))

    def test_24_and_23_points_with_all_ties(self):
        chance = random.Random(96)
        for weights in ((0, 1), (1, 2, 3), WIDE, LONG, range(10**9)):
            for many in (23, 24):
                for times in range(2):
                    self.hold(weighed(chance, full_web(many), weights))

    def test_planted_prices(self):
        chance = random.Random(97)
        sets = []
        for times in range(120):
            many = chance.choice((9, 14, 20, 23, 24, 24))
            bounds = chance.choice(((0, 3), (0, 50), (0, 10**58)))
            web, pairs, prices = planted(chance, many, chance.choice((0, 2, 4)) + many % 2, bounds, True)
            self.hold_choice(web, pairs)
            self.hold_reason(web, pairs, prices)
            self.assertEqual(self.hold(web), worth(web, pairs))
            sets.append(len(heaviest(web)[1][2]))
        self.assertGreater(max(sets), 7)
        self.assertGreater(sum(sets), 250)


def part_of(web, ring, gone):
    """The web along a ring without one of its points, numbered from there on."""
    row = ring[gone + 1:] + ring[:gone]
    return Web(len(row), [(at, at + 1, web.weight(a, b)) for at, (a, b) in enumerate(along_row(row))])


def full_ring(many):
    return web_of(many, round_ring(range(many)), 5)


class OwnTest(HeaviestCase):
    """The steps from all points paired to a heaviest choice."""

    def test_gains(self):
        web = Web(4, [(0, 1, 5), (1, 2, -3), (2, 3, 0)])
        self.assertEqual([gain(web, 1, 0), gain(web, 1, 2), gain(web, 2, 3), gain(web, 0, 3)], [5, 0, 0, 0])

    def test_filled_webs_have_all_ties_of_an_even_number_of_points(self):
        for many in range(25):
            web = filled(web_of(many, along_row(range(many)), 4))
            self.assertEqual(web.size(), many + many % 2)
            self.assertEqual(len(web.ties()), web.size() * (web.size() - 1) // 2)
            for a, b, weight in web.ties():
                self.assertEqual(weight, -4 if b == a + 1 and b < many else 0)

    def test_cut_prices_turned_to_inner_ones(self):
        prices = (2, [-5, -6, -7, -1], [([0, 1, 2], 2)])
        self.assertEqual(inner_points(prices, 3), [3, 4, 5])
        self.assertEqual(turned_inner(prices, 4), (2, [3, 4, 5, 1], [([0, 1, 2], 4)]))
        for a, b in ((0, 1), (1, 2), (0, 3), (2, 3)):
            self.assertEqual(by_words(turned_inner(prices, 4), a, b)[1], -by_words(prices, a, b)[0])
        self.assertEqual(sums_by_words(turned_inner(prices, 4))[1], -sums_by_words(prices)[0])


class BelongingTest(HeaviestCase):
    def setUp(self):
        ties = [(a - 1, b - 1, 20) for a, b in NESTED] + [(a + 6, b + 6, 13) for a, b in NESTED] + [(2, 9, 4)]
        self.web = Web(14, ties)

    def test_the_web_stays_as_it_was(self):
        before = seen(self.web)
        heaviest(self.web)
        self.assertEqual(seen(self.web), before)

    def test_what_is_told_may_be_changed_afterwards(self):
        first = copy.deepcopy(heaviest(self.web))
        self.assertNotEqual(first[1][2], [])
        pairs, prices = heaviest(self.web)
        before = seen(self.web)
        pairs.clear()
        prices[1][0] += 5
        prices[1].append(7)
        for members, price in prices[2]:
            members.append(99)
        prices[2].pop()
        self.assertEqual(seen(self.web), before)
        self.hold(self.web)
        self.assertEqual(heaviest(self.web), first)

    def test_empty_lists_told_may_be_changed_afterwards(self):
        pairs, prices = heaviest(Web(0, []))
        for some in (pairs, prices[1], prices[2]):
            some.append(1)
        self.assertEqual(self.hold(Web(0, [])), 0)

    def test_the_same_asked_again_keeps_the_words_again(self):
        chance = random.Random(98)
        for times in range(20):
            web = weighed(chance, chance_web(chance, 14, 40), WIDE)
            first = heaviest(web)
            heaviest(self.web)
            self.hold(web)
            self.assertEqual(heaviest(web), first)
            self.assertEqual(heaviest(Web(14, web.ties())), first)


if __name__ == "__main__":
    unittest.main()
