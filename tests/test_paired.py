import copy
import inspect
import itertools
import random
import unittest

from pairsheath.choices import left, worth
from pairsheath.paired import all_paired, entry_of, pairs_between, pairs_within, sources_of, tight_pairs
from pairsheath.parts import odd_parts
from pairsheath.prices import cut_price, cut_sum
from pairsheath.webs import Web
from trying import (
    LONG, NESTED, SIXTY, WIDE, ToldCase, along_row, by_words, chance_web, every_choice, every_web, full_web,
    least_worth, planted, round_ring, seen, shapes, side_by_side, sums_by_words, web_of, weighed,
)


class PairedCase(ToldCase):
    def hold_reason(self, web, pairs, prices):
        """Hold prices against the words, tie by tie; this alone shows that no choice of all points is cheaper."""
        self.hold_prices(web, prices)
        for a, b, weight in web.ties():
            self.assertLessEqual(by_words(prices, a, b)[0], prices[0] * weight, (web.ties(), prices, a, b))
            self.assertEqual(cut_price(prices, a, b), by_words(prices, a, b)[0])
        total = sum(web.weight(a, b) for a, b in pairs)
        self.assertEqual(sums_by_words(prices)[0], prices[0] * total, (web.ties(), pairs, prices))
        self.assertEqual(cut_sum(prices), prices[0] * worth(web, pairs))

    def hold(self, web):
        """Hold what is told against the words; the worth, or None."""
        told = all_paired(web)
        self.assertIs(type(told), tuple)
        if told[0] == "none":
            self.assertEqual(len(told), 2)
            self.hold_out(web, told[1])
            self.assertGreater(len(odd_parts(web, told[1])), len(told[1]), (web.ties(), told))
            return None
        self.assertEqual((told[0], len(told)), ("pairs", 3))
        self.hold_choice(web, told[1])
        self.assertEqual(sorted(itertools.chain.from_iterable(told[1])), list(range(web.size())))
        self.assertEqual(left(web, told[1]), [])
        self.hold_reason(web, told[1], told[2])
        return worth(web, told[1])

    def hold_all(self, web):
        """Hold what is told against all choices of a web."""
        full = [pairs for pairs in every_choice(web) if 2 * len(pairs) == web.size()]
        least = min((worth(web, pairs) for pairs in full), default=None)
        self.assertEqual(self.hold(web), least, web.ties())


class SmallTest(PairedCase):
    def test_every_web_of_up_to_five_points(self):
        for many in range(6):
            for web in every_web(many):
                self.hold_all(web)

    def test_every_web_of_four_points_with_any_weights(self):
        chance = random.Random(61)
        for web in every_web(4):
            for weights in itertools.product((-1, 0, 2), repeat=min(len(web.ties()), 4)):
                ties = [(a, b, chance.choice(WIDE)) for a, b, weight in web.ties()]
                ties[:4] = [(a, b, weight) for (a, b, old), weight in zip(ties, weights)]
                self.hold_all(Web(4, ties))

    def test_some_webs_of_six_to_nine_points(self):
        chance = random.Random(62)
        for many, times in ((6, 400), (7, 20), (8, 120), (9, 5)):
            for time in range(times):
                web = chance_web(chance, many, chance.choice((30, 45, 60, 80)))
                for weights in ((0, 1), (0, 1, 2, 3), WIDE, LONG):
                    self.hold_all(weighed(chance, web, weights))

    def test_some_webs_of_ten_to_fourteen_points(self):
        chance = random.Random(63)
        for many, times in ((10, 60), (12, 30), (13, 3), (14, 10)):
            for time in range(times):
                web = chance_web(chance, many, chance.choice((20, 30, 50, 100)))
                for weights in ((0, 1, 2, 3), WIDE):
                    web = weighed(chance, web, weights)
                    self.assertEqual(self.hold(web), least_worth(web), web.ties())

    def test_a_web_without_points(self):
        told = all_paired(Web(0, []))
        self.assertEqual(told[:2], ("pairs", []))
        self.assertEqual(told[2][1:], ([], []))
        self.assertEqual(self.hold(Web(0, [])), 0)

    def test_webs_without_ties(self):
        for many in range(1, 25):
            self.assertIsNone(self.hold(Web(many, [])))

    def test_one_tie(self):
        for weight in (0, 1, -1, 2, -7, SIXTY, -SIXTY):
            self.assertEqual(self.hold(Web(2, [(1, 0, weight)])), weight)
            self.assertEqual(all_paired(Web(2, [(1, 0, weight)]))[1], [(0, 1)])
            self.assertIsNone(self.hold(Web(3, [(0, 2, weight)])))
            self.assertIsNone(self.hold(Web(24, [(20, 3, weight)])))

    def test_names_of_arguments(self):
        self.assertEqual(list(inspect.signature(all_paired).parameters), ["web"])


class ShapesTest(PairedCase):
    def test_webs_told_by_hand(self):
        chance = random.Random(64)
        for web, number in shapes():
            worths = [self.hold(web)]
            for weights in (WIDE, (0, 1), LONG):
                worths.append(self.hold(weighed(chance, web, weights)))
            full = 2 * number == web.size()
            self.assertEqual([told is not None for told in worths], [full] * 4, web.ties())

    def test_small_ones_of_them_against_all_choices(self):
        chance = random.Random(65)
        for web, number in shapes():
            if web.size() <= 8 or len(web.ties()) <= 12:
                for weights in (WIDE, (0, 1), LONG):
                    self.hold_all(weighed(chance, web, weights))

    def test_an_odd_number_of_points(self):
        chance = random.Random(66)
        for many in range(1, 24, 2):
            for web in (full_web(many), chance_web(chance, many, 30), web_of(many, along_row(range(many)))):
                self.assertEqual(all_paired(web)[0], "none")
                self.hold(web)

    def test_even_rings(self):
        chance = random.Random(67)
        for many in range(4, 25, 2):
            ring = chance.sample(range(many), many)
            for weights in (WIDE, LONG, (-5, 5)):
                web = weighed(chance, web_of(many, round_ring(ring)), weights)
                around = [web.weight(a, b) for a, b in round_ring(ring)]
                self.assertEqual(self.hold(web), min(sum(around[::2]), sum(around[1::2])))

    def test_odd_rings_joined_by_one_tie(self):
        # The tie between both must be taken; around each ring the rest of it is paired as it must be.
        chance = random.Random(68)
        for one, other in ((3, 3), (3, 5), (5, 7), (3, 21), (11, 13)):
            for weights in (WIDE, LONG, (4,), (-SIXTY,)):
                couples = round_ring(range(one)) + round_ring(range(one, one + other)) + [(0, one)]
                web = weighed(chance, web_of(one + other, couples), weights)
                pairs = [(0, one)] + [(at, at + 1) for at in [*range(1, one, 2), *range(one + 1, one + other, 2)]]
                self.assertEqual(self.hold(web), worth(web, pairs))
                self.assertEqual(all_paired(web)[1], pairs)

    def test_cheap_odd_rings_need_prices_of_sets(self):
        # No prices of points alone show that the dear tie between two triangles of no cost must be taken.
        for dear in (1, 10, SIXTY):
            couples = round_ring([0, 1, 2]) + round_ring([3, 4, 5])
            web = Web(6, [(a, b, 0) for a, b in couples] + [(2, 3, dear)])
            self.assertEqual(self.hold(web), dear)
            self.assertNotEqual(all_paired(web)[2][2], [])

    def test_odd_rings_within_odd_rings(self):
        chance = random.Random(69)
        for far in (100, SIXTY):
            for times in range(40):
                ties = [(a, b, chance.randrange(4)) for a, b in NESTED] + [(0, chance.randrange(1, 8), far)]
                self.hold_all(Web(8, ties))
        # The same twice, with one tie between: sets within sets on both of its ends.
        for times in range(40):
            ties = [(a - 1, b - 1, chance.randrange(3)) for a, b in NESTED]
            ties += [(a + 6, b + 6, chance.randrange(3)) for a, b in NESTED]
            ties += [(chance.randrange(7), 7 + chance.randrange(7), 1000)]
            web = Web(14, ties)
            self.assertEqual(self.hold(web), least_worth(web))

    def test_webs_of_several_parts(self):
        chance = random.Random(70)
        for times in range(40):
            one = weighed(chance, chance_web(chance, 10, 50), WIDE)
            other = weighed(chance, chance_web(chance, 12, 40), LONG)
            worths = [self.hold(one), self.hold(other)]
            both = None if None in worths else sum(worths)
            self.assertEqual(self.hold(side_by_side(one, other)), both)
        for weight in (5, -SIXTY):
            couples = [(at, 23 - at) for at in range(12)]
            self.assertEqual(self.hold(web_of(24, couples, weight)), 12 * weight)
            self.assertIsNone(self.hold(web_of(24, couples[1:], weight)))
        self.assertIsNone(self.hold(side_by_side(full_web(3), full_web(5))))
        self.assertEqual(self.hold(side_by_side(full_web(4), full_web(6))), 5)

    def test_two_parts_that_are_odd_have_none_though_all_points_are_even(self):
        for one, other in ((1, 1), (1, 3), (7, 5), (11, 13)):
            web = side_by_side(full_web(one), full_web(other))
            self.assertEqual(all_paired(web)[0], "none")
            self.hold(web)

    def test_whatever_the_numbers_of_the_points(self):
        chance = random.Random(71)
        for times in range(40):
            web = weighed(chance, chance_web(chance, 16, 40), WIDE)
            names = chance.sample(range(16), 16)
            turned = Web(16, [(names[a], names[b], weight) for a, b, weight in web.ties()])
            self.assertEqual(self.hold(turned), self.hold(web))


class WeightsTest(PairedCase):
    def test_weights_all_alike(self):
        for weight in (0, 1, 3, -1, -8, SIXTY, -SIXTY):
            for many in (4, 10, 24):
                self.assertEqual(self.hold(full_web(many, weight)), weight * many // 2)
            self.assertEqual(self.hold(web_of(8, [(0, 1)] + NESTED, weight)), 4 * weight)

    def test_weights_below_nought(self):
        chance = random.Random(72)
        for times in range(40):
            web = weighed(chance, chance_web(chance, 10, 60), range(-40, 0))
            self.assertEqual(self.hold(web), least_worth(web))

    def test_weights_raised_all_alike(self):
        chance = random.Random(73)
        for times in range(30):
            web = weighed(chance, chance_web(chance, 12, 60), WIDE)
            told = self.hold(web)
            for more in (1, -100, SIXTY - 30):
                raised = self.hold(Web(12, [(a, b, weight + more) for a, b, weight in web.ties()]))
                self.assertEqual(raised, None if told is None else told + 6 * more)

    def test_weights_of_sixty_figures_that_differ_by_one(self):
        for dear in (SIXTY, 1 - SIXTY):
            web = Web(4, [(0, 1, dear), (2, 3, dear), (0, 2, dear), (1, 3, dear - 1)])
            self.assertEqual(all_paired(web)[1], [(0, 2), (1, 3)])
            self.assertEqual(self.hold(web), 2 * dear - 1)

    def test_weights_of_sixty_figures_either_side_of_nought(self):
        chance = random.Random(74)
        for times in range(60):
            bounds = (-SIXTY, SIXTY)
            web = chance_web(chance, 10, chance.choice((40, 70)))
            web = Web(10, [(a, b, chance.randint(*bounds)) for a, b, weight in web.ties()])
            self.assertEqual(self.hold(web), least_worth(web))


class GreatTest(PairedCase):
    def test_24_points_with_few_ties(self):
        chance = random.Random(75)
        found = []
        for times in range(150):
            web = chance_web(chance, 24, chance.choice((8, 12, 16, 20)))
            found.append(self.hold(weighed(chance, web, chance.choice(((0, 1), WIDE, LONG)))) is not None)
        self.assertGreater(found.count(True), 40)
        self.assertGreater(found.count(False), 10)

    def test_24_points_with_all_ties(self):
        chance = random.Random(76)
        for weights in ((0, 1), (0, 1, 2, 3), WIDE, LONG, range(10**9)):
            for times in range(4):
                self.assertIsNotNone(self.hold(weighed(chance, full_web(24), weights)))

    def test_24_points_on_a_plane(self):
        # Steps between points of a plane are alike so often that sets come within sets.
        chance = random.Random(77)
        for times in range(20):
            places = [(chance.randrange(9), chance.randrange(9)) for point in range(24)]
            ties = []
            for a, b in itertools.combinations(range(24), 2):
                ties.append((a, b, sum(abs(one - other) for one, other in zip(places[a], places[b]))))
            self.hold(Web(24, ties))

    def test_planted_prices(self):
        chance = random.Random(78)
        sets = []
        for times in range(120):
            bounds = chance.choice(((-3, 3), (0, 1), (-50, 50), (-(10**58), 10**58)))
            web, pairs, prices = planted(chance, chance.choice((8, 14, 20, 22, 24, 24)), 0, bounds, False)
            self.hold_choice(web, pairs)
            self.hold_reason(web, pairs, prices)
            self.assertEqual(self.hold(web), worth(web, pairs))
            sets.append(len(all_paired(web)[2][2]))
        self.assertGreater(max(sets), 8)
        self.assertGreater(sum(sets), 300)


class OwnTest(PairedCase):
    """The steps by which a choice is found along tight ties."""

    def test_sources(self):
        small = Web(3, [(0, 1, 0), (0, 2, 0), (1, 2, 0)])
        sources = [(0, 5), (4, 3), (1, 2)]
        self.assertEqual(sources_of(small, sources, [(0, 2)]), [(4, 3)])
        self.assertEqual(sources_of(small, sources, [(1, 2)]), [(1, 2)])
        self.assertEqual(sources_of(small, sources, []), [])

    def test_entries(self):
        self.assertEqual(entry_of([(0, 1), (2, 5), (3, 4)], [3, 4, 5]), 5)
        self.assertEqual(entry_of([(0, 1), (5, 2), (3, 4)], [3, 4, 5]), 5)
        self.assertEqual(entry_of([(0, 1), (5, 2), (3, 4)], [0, 1, 2]), 2)

    def test_pairs_between_groups_and_within_a_set(self):
        web = Web(6, [(a, b, 0) for a, b in round_ring([0, 1, 2]) + round_ring([3, 4, 5])] + [(2, 3, 1)])
        self.assertEqual(pairs_between(web, [[0, 1, 2], [3, 4, 5]]), [(2, 3)])
        self.assertEqual(pairs_within(web, [[0, 1, 2], [3, 4, 5]], [3, 4, 5], 3), [(4, 5)])
        self.assertEqual(pairs_within(web, [[0, 1, 2], [3, 4, 5]], [0, 1, 2], 0), [(1, 2)])
        prices = (2, [0] * 6, [([0, 1, 2], 1), ([3, 4, 5], 1)])
        self.assertEqual(tight_pairs(web, prices), [(0, 1), (2, 3), (4, 5)])

    def test_sets_within_sets_are_gone_through_from_the_outermost_on(self):
        # A triangle within a ring of five points, on a tie to 5: whichever point it leads from.
        ties = [(0, 1, 0), (1, 2, 0), (0, 2, 0), (2, 3, 1), (3, 4, 1), (1, 4, 1)]
        sets = [([0, 1, 2], 1), ([0, 1, 2, 3, 4], 4)]
        for entry in range(5):
            web = Web(6, ties + [(entry, 5, 9)])
            for listed in (sets, sets[::-1]):
                prices = (2, [0, 0, 0, 1, 1, 13], listed)
                pairs = tight_pairs(web, prices)
                self.hold_choice(web, pairs)
                self.assertIn((entry, 5), pairs)
                self.assertEqual(left(web, pairs), [])
                self.hold_reason(web, pairs, prices)


class BelongingTest(PairedCase):
    def setUp(self):
        ties = [(a - 1, b - 1, 2) for a, b in NESTED] + [(a + 6, b + 6, 3) for a, b in NESTED] + [(2, 9, 40)]
        self.web = Web(14, ties)
        self.none = web_of(8, [(0, 1), (0, 2), (0, 3), (4, 5)])

    def test_the_web_stays_as_it_was(self):
        for web in (self.web, self.none):
            before = seen(web)
            all_paired(web)
            self.assertEqual(seen(web), before)

    def test_what_is_told_may_be_changed_afterwards(self):
        first = copy.deepcopy(all_paired(self.web))
        self.assertNotEqual(first[2][2], [])
        told = all_paired(self.web)
        before = seen(self.web)
        told[1].clear()
        told[2][1][0] += 5
        told[2][1].append(7)
        for members, price in told[2][2]:
            members.append(99)
        told[2][2].pop()
        self.assertEqual(seen(self.web), before)
        self.hold(self.web)
        self.assertEqual(all_paired(self.web), first)

    def test_points_out_that_are_told_may_be_changed_afterwards(self):
        told = all_paired(self.none)
        self.assertEqual(told, ("none", [0]))
        told[1].append(5)
        self.hold(self.none)
        self.assertEqual(all_paired(self.none), ("none", [0]))

    def test_empty_lists_told_may_be_changed_afterwards(self):
        told = all_paired(Web(0, []))
        for some in (told[1], told[2][1], told[2][2]):
            some.append(1)
        self.assertEqual(self.hold(Web(0, [])), 0)
        all_paired(Web(3, [(0, 1, 5), (1, 2, 5), (0, 2, 5)]))[1].append(0)
        self.assertIsNone(self.hold(Web(3, [(0, 1, 5), (1, 2, 5), (0, 2, 5)])))

    def test_the_same_asked_again_keeps_the_words_again(self):
        chance = random.Random(79)
        for times in range(20):
            web = weighed(chance, chance_web(chance, 14, 40))
            first = all_paired(web)
            all_paired(self.web)
            self.hold(web)
            self.assertEqual(all_paired(web), first)
            self.assertEqual(all_paired(Web(14, web.ties())), first)


if __name__ == "__main__":
    unittest.main()
