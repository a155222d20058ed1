import inspect
import itertools
import random
import unittest

from pairsheath.choices import left
from pairsheath.parts import odd_parts
from pairsheath.rows import exchanged, turns
from pairsheath.search import better
from pairsheath.webs import Web
from trying import NESTED, SIXTY, chance_choice, chance_web, every_choice, every_web, full_web, round_ring, seen, web_of


class SearchCase(unittest.TestCase):
    def hold_row(self, web, pairs, row):
        """Hold a row against the words: a row of the choice that begins and ends at points left out."""
        self.assertIs(type(row), list)
        self.assertIs(turns(web, pairs, row), True, (web.ties(), pairs, row))
        out = left(web, pairs)
        self.assertIn(row[0], out)
        self.assertIn(row[-1], out)
        self.assertEqual(len(exchanged(pairs, row)), len(pairs) + 1)

    def hold(self, web, pairs, most):
        """Hold the answer against the number of most pairs."""
        row = better(web, pairs)
        if len(pairs) == most:
            self.assertIsNone(row, (web.ties(), pairs))
        else:
            self.assertIsNotNone(row, (web.ties(), pairs))
            self.hold_row(web, pairs, row)
        return row

    def hold_up_to(self, web, pairs, most):
        """Better a choice again and again, up to the number of most pairs."""
        while len(pairs) < most:
            pairs = exchanged(pairs, self.hold(web, pairs, most))
        self.hold(web, pairs, most)

    def hold_all(self, web):
        """Each choice of a web, held against all of them."""
        known = every_choice(web)
        most = max(len(pairs) for pairs in known)
        for pairs in known:
            self.hold(web, pairs, most)


class SmallTest(SearchCase):
    def test_every_choice_of_every_web_of_up_to_five_points(self):
        for many in range(6):
            for web in every_web(many):
                self.hold_all(web)

    def test_every_choice_of_some_webs_of_six_to_nine_points(self):
        chance = random.Random(14)
        for many, times in ((6, 300), (7, 150), (8, 60), (9, 20)):
            for time in range(times):
                self.hold_all(chance_web(chance, many, chance.choice((20, 35, 50, 70))))

    def test_a_web_without_points_and_webs_without_ties(self):
        for many in range(25):
            self.assertIsNone(better(Web(many, []), []))

    def test_one_tie(self):
        for weight in (0, 1, -1, SIXTY, -SIXTY):
            web = Web(4, [(1, 3, weight)])
            self.assertIn(better(web, []), ([1, 3], [3, 1]))
            self.assertIsNone(better(web, [(1, 3)]))

    def test_no_pairs(self):
        web = web_of(24, [(22, 23)])
        self.assertIn(better(web, []), ([22, 23], [23, 22]))
        for web in every_web(4):
            row = better(web, [])
            self.assertEqual(row is None, web.ties() == [])

    def test_names_of_arguments(self):
        self.assertEqual(list(inspect.signature(better).parameters), ["web", "pairs"])


class OddRingTest(SearchCase):
    def test_odd_rings_alone(self):
        for many in (3, 5, 7, 9):
            web = web_of(many, round_ring(range(many)))
            self.hold_all(web)
        for many in (11, 23):
            web = web_of(many, round_ring(range(many)))
            for first in range(many):
                points = [(first + at) % many for at in range(many - 1)]
                pairs = sorted(tuple(sorted(points[at:at + 2])) for at in range(0, many - 1, 2))
                self.hold(web, pairs, many // 2)
                for gone in range(len(pairs)):
                    self.hold_up_to(web, pairs[:gone] + pairs[gone + 1:], many // 2)

    def test_an_odd_ring_at_the_end_of_a_row(self):
        # The ring 2 3 4 5 6 hangs on the row 0 1 2; 7 hangs on one of its points.
        stem = [(0, 1), (1, 2), (2, 3), (3, 4), (4, 5), (5, 6), (2, 6)]
        for hanging in range(2, 7):
            web = web_of(8, stem + [(hanging, 7)])
            self.hold_all(web)
            pairs = [(1, 2), (3, 4), (5, 6)]
            row = better(web, pairs)
            self.hold_row(web, pairs, row)
            self.assertEqual({row[0], row[-1]}, {0, 7})
        self.hold_all(web_of(7, stem))

    def test_two_odd_rings_joined_by_a_row(self):
        web = web_of(8, [(0, 1), (1, 2), (0, 2), (2, 3), (3, 4), (4, 5), (5, 6), (6, 7), (5, 7)])
        self.hold_all(web)
        web = web_of(9, [(0, 1), (1, 2), (0, 2), (2, 3), (3, 4), (4, 5), (5, 6), (4, 6), (1, 7), (6, 8)])
        self.hold_all(web)

    def test_odd_rings_within_odd_rings(self):
        for far in range(1, 8):
            web = web_of(9, [(0, 1)] + NESTED + [(far, 8)])
            self.hold_all(web)
        self.hold_all(web_of(8, [(0, 1)] + NESTED))

    def test_odd_rings_within_odd_rings_whatever_the_numbers(self):
        chance = random.Random(15)
        pairs = [(1, 2), (3, 4), (5, 6), (7, 8), (9, 10), (11, 12), (13, 14)]
        for times in range(400):
            # Each point is tied to some earlier ones, so that rings close upon rings.
            couples = {(0, 1), *pairs}
            while len(couples) < chance.choice((17, 20, 24)):
                a = chance.randrange(15)
                couples.add((max(0, a - chance.randrange(1, 6)), a) if a else (0, 1))
            couples.add((chance.randrange(1, 15), 15))
            names = chance.sample(range(16), 16)
            web = web_of(16, {tuple(sorted((names[a], names[b]))) for a, b in couples})
            turned = sorted(tuple(sorted((names[a], names[b]))) for a, b in pairs)
            row = better(web, turned)
            if row is None:
                self.assertFalse(self.has_row(web, turned, names[0], names[15]))
            else:
                self.hold_row(web, turned, row)

    def has_row(self, web, pairs, start, goal):
        """Whether a row leads from one point left out to the other, found by trying each way."""
        partners = dict(pairs) | {b: a for a, b in pairs}

        def from_here(point, met):
            for near in web.tied(point):
                if near == goal:
                    return True
                if near not in met and near in partners:
                    if from_here(partners[near], met | {near, partners[near]}):
                        return True
            return False

        return from_here(start, {start})

    def test_only_a_way_through_an_odd_ring_joins_the_two_left_out(self):
        web = web_of(6, [(0, 1), (1, 2), (2, 3), (3, 4), (2, 4), (3, 5)])
        row = better(web, [(1, 2), (3, 4)])
        self.assertIn(row, ([0, 1, 2, 4, 3, 5], [5, 3, 4, 2, 1, 0]))
        web = web_of(10, [(0, 1), (1, 2), (2, 3), (3, 4), (2, 4), (3, 5), (5, 6), (6, 7), (7, 8), (6, 8), (7, 9)])
        row = better(web, [(1, 2), (3, 4), (5, 6), (7, 8)])
        way = [0, 1, 2, 4, 3, 5, 6, 8, 7, 9]
        self.assertIn(row, (way, way[::-1]))

    def test_a_side_way_is_turned_back_only_behind_a_ring_that_closes_late(self):
        # The ring 0 1 2 3 4, and on it 5 6 tied to 0 and to 1; the same from 7 on, and 5 tied to 12. From either
        # point left out the way to 5 or 12 leads all round the ring, and down the side way from behind.
        side = [(0, 1), (1, 2), (2, 3), (3, 4), (0, 4), (0, 5), (5, 6), (1, 6)]
        couples = side + [(a + 7, b + 7) for a, b in side] + [(5, 12)]
        pairs = [(1, 2), (3, 4), (5, 6), (8, 9), (10, 11), (12, 13)]
        chance = random.Random(20)
        for times in range(200):
            names = chance.sample(range(14), 14)
            web = web_of(14, {tuple(sorted((names[a], names[b]))) for a, b in couples})
            turned = sorted(tuple(sorted((names[a], names[b]))) for a, b in pairs)
            row = self.hold(web, turned, 7)
            way = [names[point] for point in (0, 4, 3, 2, 1, 6, 5, 12, 13, 8, 9, 10, 11, 7)]
            self.assertIn(row, (way, way[::-1]))

    def test_an_odd_ring_alone_joins_no_two_left_out(self):
        # A way from 0 round the ring comes back to where it went in: 0 and 5 are not joined.
        web = web_of(6, [(0, 1), (1, 2), (2, 3), (3, 4), (2, 4), (1, 5)])
        self.assertIsNone(better(web, [(1, 2), (3, 4)]))


class GreatTest(SearchCase):
    def test_full_webs_of_24_and_23_points(self):
        for many in (23, 24):
            for weight in (1, 0, -SIXTY):
                web = full_web(many, weight)
                self.hold_up_to(web, [], many // 2)
                self.hold_up_to(web, [(0, many - 1), (5, 6)], many // 2)

    def test_a_row_and_a_ring_of_24_points(self):
        couples = [(at, at + 1) for at in range(23)]
        pairs = couples[1::2]
        self.assertIn(better(web_of(24, couples), pairs), (list(range(24)), list(range(23, -1, -1))))
        for some in (couples, couples + [(0, 23)]):
            web = web_of(24, some)
            self.hold_up_to(web, [], 12)
            self.hold_up_to(web, pairs, 12)

    def test_triangles_in_a_row(self):
        # Eight triangles, the next one tied to the one before it.
        couples = []
        for at in range(0, 24, 3):
            couples += [(at, at + 1), (at + 1, at + 2), (at, at + 2)]
        self.hold_up_to(web_of(24, couples), [], 8)
        joined = web_of(24, couples + [(at, at + 1) for at in range(2, 23, 3)])
        self.hold_up_to(joined, [], 12)
        # In each but the first and last the pair stands between the two ways out.
        pairs = sorted((at + 1, at + 2) for at in range(0, 24, 3))
        self.hold_up_to(joined, pairs, 12)

    def test_webs_with_a_choice_of_all_points_hidden_in_them(self):
        chance = random.Random(16)
        for times in range(150):
            points = chance.sample(range(24), 24)
            hidden = {tuple(sorted(points[at:at + 2])) for at in range(0, 24, 2)}
            web = chance_web(chance, 24, chance.choice((3, 6, 10)))
            ties = [tie for tie in web.ties() if tie[:2] not in hidden]
            web = Web(24, ties + [(a, b, chance.choice((-SIXTY, 0, 3))) for a, b in hidden])
            self.hold_up_to(web, chance_choice(chance, web), 12)

    def test_webs_in_which_points_out_leave_odd_parts(self):
        chance = random.Random(17)
        for times in range(100):
            # Two points tied to all others, which without these are six odd parts: four points stay left out.
            couples = set()
            start = 2
            for length in (7, 5, 3, 3, 3, 1):
                part = list(range(start, start + length))
                couples |= {(part[at], part[at + 1]) for at in range(length - 1)}
                if length > 1:
                    couples.add((part[0], part[-1]))
                start += length
            self.assertEqual(start, 24)
            couples |= {(out, point) for out in (0, 1) for point in range(2, 24)}
            names = chance.sample(range(24), 24)
            web = web_of(24, {tuple(sorted((names[a], names[b]))) for a, b in couples})
            self.assertEqual(len(odd_parts(web, names[:2])), 6)
            self.hold_up_to(web, chance_choice(chance, web), 10)

    def test_any_webs_of_24_points_by_a_reason(self):
        chance = random.Random(18)
        for times in range(40):
            web = chance_web(chance, 24, chance.choice((4, 6, 8, 12)))
            pairs = chance_choice(chance, web)
            row = better(web, pairs)
            while row is not None:
                self.hold_row(web, pairs, row)
                pairs = exchanged(pairs, row)
                row = better(web, pairs)
            self.assertTrue(self.has_reason(web, pairs), (web.ties(), pairs))

    def has_reason(self, web, pairs):
        """Whether points out are found that show by counting that no choice has more pairs.

        A point is put out as long as each choice of most pairs has it; then each part is an odd one.
        """
        out = []
        while len(odd_parts(web, out)) - len(out) != len(left(web, pairs)):
            needed = [point for point in range(24) if point not in out and self.is_needed(web, pairs, out, point)]
            if not needed:
                return False
            out.append(needed[0])
        return True

    def is_needed(self, web, pairs, out, point):
        """Whether the web without the points out loses a pair where this point goes too."""
        return self.most_without(web, pairs, out + [point]) < self.most_without(web, pairs, out)

    def most_without(self, web, pairs, out):
        rest = Web(24, [tie for tie in web.ties() if tie[0] not in out and tie[1] not in out])
        kept = [pair for pair in pairs if pair[0] not in out and pair[1] not in out]
        while better(rest, kept) is not None:
            kept = exchanged(kept, better(rest, kept))
        return len(kept)


class BelongingTest(SearchCase):
    def setUp(self):
        self.web = web_of(9, [(0, 1)] + NESTED + [(6, 8)])
        self.pairs = [(1, 2), (3, 4)]

    def test_what_is_handed_in_stays_as_it_was(self):
        before = seen(self.web)
        better(self.web, self.pairs)
        self.assertEqual(self.pairs, [(1, 2), (3, 4)])
        self.assertEqual(seen(self.web), before)

    def test_what_is_told_may_be_changed_afterwards(self):
        row = better(self.web, self.pairs)
        first = list(row)
        row.reverse()
        row.pop()
        self.assertEqual(better(self.web, self.pairs), first)
        row.clear()
        self.assertEqual(better(self.web, self.pairs), first)
        self.hold_row(self.web, self.pairs, first)

    def test_what_was_handed_in_may_be_changed_afterwards(self):
        row = better(self.web, self.pairs)
        copy = list(row)
        self.pairs.clear()
        self.assertEqual(row, copy)

    def test_the_same_asked_again_keeps_the_words_again(self):
        chance = random.Random(19)
        for times in range(50):
            web = chance_web(chance, 12, 25)
            pairs = chance_choice(chance, web)[1:]
            first = better(web, pairs)
            better(self.web, [])
            self.assertEqual(better(web, pairs), first)
            self.assertEqual(better(Web(12, web.ties()), list(pairs)), first)


if __name__ == "__main__":
    unittest.main()
