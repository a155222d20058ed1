import inspect
import random
import unittest

from pairsheath.most import most, reason
from pairsheath.parts import odd_parts
from pairsheath.rows import exchanged
from pairsheath.search import better
from pairsheath.webs import Web
from trying import (
    NESTED, SIXTY, ToldCase, along_row, best_choices, chance_choice, chance_web, every_choice, every_web, full_web,
    round_ring, seen, shapes, side_by_side, web_of, weighed,
)


def counted(web, out):
    """Two times the pairs, as the points out count them."""
    return web.size() + len(out) - len(odd_parts(web, out))


class MostCase(ToldCase):
    def hold(self, web):
        """Both answers: the count alone shows that no choice has more pairs."""
        pairs = most(web)
        out = reason(web)
        self.hold_choice(web, pairs)
        self.hold_out(web, out)
        self.assertEqual(2 * len(pairs), counted(web, out), (web.ties(), pairs, out))
        self.assertIsNone(better(web, pairs))
        return pairs

    def hold_all(self, web):
        """Both answers and better, held against all choices of a web."""
        pairs = self.hold(web)
        known = every_choice(web)
        self.assertEqual(len(pairs), max(len(other) for other in known))
        out = reason(web)
        for other in known:
            row = better(web, sorted(other))
            self.assertEqual(row is None, 2 * len(other) == counted(web, out), (web.ties(), other))

    def hold_bettered(self, web, pairs):
        """A choice bettered again and again ends with as many pairs as are told."""
        row = better(web, pairs)
        while row is not None:
            pairs = exchanged(pairs, row)
            row = better(web, pairs)
        self.assertEqual(len(pairs), len(most(web)))
        self.assertEqual(2 * len(pairs), counted(web, reason(web)))


class SmallTest(MostCase):
    def test_every_web_of_up_to_five_points(self):
        for many in range(6):
            for web in every_web(many):
                self.hold_all(web)

    def test_some_webs_of_six_to_ten_points(self):
        chance = random.Random(21)
        for many, times in ((6, 300), (7, 150), (8, 80), (9, 30), (10, 10)):
            for time in range(times):
                self.hold_all(chance_web(chance, many, chance.choice((15, 25, 35, 50, 70))))

    def test_a_web_without_points(self):
        self.assertEqual(most(Web(0, [])), [])
        self.assertEqual(reason(Web(0, [])), [])

    def test_webs_without_ties(self):
        for many in range(1, 25):
            web = Web(many, [])
            self.assertEqual(most(web), [])
            self.hold(web)

    def test_one_tie(self):
        for weight in (0, 1, -1, SIXTY, -SIXTY):
            self.assertEqual(most(Web(2, [(1, 0, weight)])), [(0, 1)])
            self.assertEqual(most(Web(24, [(20, 3, weight)])), [(3, 20)])
            self.hold(Web(24, [(20, 3, weight)]))

    def test_names_of_arguments(self):
        for function in (most, reason):
            self.assertEqual(list(inspect.signature(function).parameters), ["web"])


class ShapesTest(MostCase):
    def test_webs_told_by_hand(self):
        for web, number in shapes():
            self.assertEqual(len(self.hold(web)), number, web.ties())

    def test_small_ones_of_them_against_all_choices(self):
        for web, number in shapes():
            if web.size() <= 8 or len(web.ties()) <= 12:
                self.assertEqual(len(best_choices(web)[0]), number, web.ties())
                self.hold_all(web)

    def test_rows_of_even_length_have_all_points(self):
        for many in range(2, 25, 2):
            pairs = [(at, at + 1) for at in range(0, many, 2)]
            self.assertEqual(most(web_of(many, along_row(range(many)))), pairs)
            points = [*range(0, many, 2), *range(1, many, 2)]
            turned = sorted(tuple(sorted(points[at:at + 2])) for at in range(0, many, 2))
            self.assertEqual(most(web_of(many, along_row(points))), turned)

    def test_a_star_has_its_middle_as_the_only_reason(self):
        for many in range(4, 25):
            for middle in (0, many // 2, many - 1):
                web = web_of(many, [(middle, point) for point in range(many) if point != middle])
                self.assertEqual(len(self.hold(web)), 1)
                self.assertEqual(reason(web), [middle])

    def test_whatever_the_numbers_of_the_points(self):
        chance = random.Random(22)
        for web, number in shapes():
            names = chance.sample(range(web.size()), web.size())
            turned = web_of(web.size(), [(names[a], names[b]) for a, b, weight in web.ties()])
            self.assertEqual(len(self.hold(turned)), number)

    def test_weights_of_every_sign_change_nothing(self):
        chance = random.Random(23)
        for web, number in shapes():
            self.assertEqual(len(self.hold(weighed(chance, web))), number)

    def test_webs_side_by_side_have_their_pairs_together(self):
        chance = random.Random(24)
        for times in range(60):
            one = chance_web(chance, 11, chance.choice((10, 20, 40)))
            other = chance_web(chance, 13, chance.choice((10, 20, 40)))
            both = side_by_side(one, other)
            self.assertEqual(len(self.hold(both)), len(self.hold(one)) + len(self.hold(other)))


class GreatTest(MostCase):
    def test_any_webs_of_24_and_23_points(self):
        chance = random.Random(25)
        for times in range(300):
            web = chance_web(chance, chance.choice((23, 24)), chance.choice((2, 4, 6, 8, 12, 20, 50)))
            self.hold(web)
            self.hold_bettered(web, [])
            self.hold_bettered(web, chance_choice(chance, web))

    def test_all_ties(self):
        for weight in (1, 0, -SIXTY):
            self.assertEqual(len(self.hold(full_web(24, weight))), 12)
            self.assertEqual(len(self.hold(full_web(23, weight))), 11)

    def test_few_points_tied_to_all_others(self):
        for few in range(1, 12):
            web = web_of(24, [(a, b) for a in range(few) for b in range(few, 24)])
            self.assertEqual(len(self.hold(web)), few)
            self.assertEqual(reason(web), list(range(few)))
        self.assertEqual(len(self.hold(web_of(24, [(a, b) for a in range(12) for b in range(12, 24)]))), 12)

    def test_odd_rings_on_a_few_points(self):
        # Without 0 and 1, which are tied to all others, six odd rings and parts are left: four points stay left out.
        couples = [(out, point) for out in (0, 1) for point in range(2, 24)]
        for first, length in ((2, 7), (9, 5), (14, 3), (17, 3), (20, 3)):
            couples += round_ring(range(first, first + length))
        web = web_of(24, couples)
        self.assertEqual(len(self.hold(web)), 10)
        self.assertEqual(counted(web, [0, 1]), 20)


class BetterTest(MostCase):
    def test_bettered_from_no_pairs_on(self):
        for web, number in shapes():
            self.hold_bettered(web, [])
        for web in every_web(5):
            self.hold_bettered(web, [])

    def test_bettered_from_any_choice_on(self):
        chance = random.Random(26)
        for web, number in shapes():
            self.hold_bettered(web, chance_choice(chance, web))

    def test_a_choice_of_one_pair_less_is_bettered(self):
        for web, number in shapes():
            pairs = most(web)
            for gone in range(len(pairs)):
                self.assertIsNotNone(better(web, pairs[:gone] + pairs[gone + 1:]))


class BelongingTest(MostCase):
    def setUp(self):
        self.web = web_of(14, [(0, 1)] + NESTED + [(2, 8), (2, 9), (2, 10), (11, 12)])

    def test_the_web_stays_as_it_was(self):
        before = seen(self.web)
        most(self.web)
        reason(self.web)
        self.assertEqual(seen(self.web), before)

    def test_what_is_told_may_be_changed_afterwards(self):
        for function in (most, reason):
            told = function(self.web)
            self.assertNotEqual(told, [])
            before = seen(self.web)
            told.reverse()
            told.append(told[0])
            self.hold(self.web)
            told.clear()
            self.hold(self.web)
            self.assertEqual(seen(self.web), before)

    def test_an_empty_list_told_may_be_changed_afterwards(self):
        for function in (most, reason):
            function(Web(3, [])).append(1)
            self.assertEqual(function(Web(3, [])), [])

    def test_the_same_asked_again_keeps_the_words_again(self):
        chance = random.Random(27)
        for times in range(50):
            web = chance_web(chance, 14, 20)
            pairs, out = most(web), reason(web)
            most(self.web)
            reason(self.web)
            self.hold(web)
            self.assertEqual((most(web), reason(web)), (pairs, out))
            again = Web(14, web.ties())
            self.assertEqual((most(again), reason(again)), (pairs, out))


if __name__ == "__main__":
    unittest.main()
