import inspect
import random
import unittest

from pairsheath.choices import is_choice, left
from pairsheath.errors import NoTie, WebError
from pairsheath.most import most
from pairsheath.parts import odd_parts, parts
from pairsheath.spare import kinds, spared, taken_in
from pairsheath.webs import Web
from trying import (
    FAR_OFF, NESTED, SIXTY, along_row, best_choices, chance_web, every_web, full_web, round_ring, seen, shapes,
    web_of, weighed,
)


def together(lists):
    """All points of some lists, rising."""
    return sorted(point for points in lists for point in points)


def without(web, a, b):
    """The web without the ties of two points."""
    return Web(web.size(), [tie for tie in web.ties() if not {a, b} & set(tie[:2])])


class SpareCase(unittest.TestCase):
    def hold_kinds(self, web):
        """Hold the kinds against one another and the parts; this alone shows that none but the spare is left out."""
        told = kinds(web)
        self.assertIs(type(told), tuple)
        self.assertEqual([type(points) for points in told], [list] * 3)
        spare, beside, rest = told
        for points in told:
            self.assertEqual(points, sorted(points))
        self.assertEqual(together(told), list(range(web.size())))
        for point in beside + rest:
            self.assertEqual(point in beside, bool(set(web.tied(point)) & set(spare)), (web.ties(), point))
        odd = odd_parts(web, beside)
        even = [part for part in parts(web, beside) if part not in odd]
        self.assertEqual(together(odd), spare)
        self.assertEqual(together(even), rest)
        self.assertEqual(2 * len(most(web)), web.size() + len(beside) - len(odd))
        return told

    def hold_best(self, web, pairs):
        """Hold a choice against the words: one of most pairs."""
        self.assertIs(type(pairs), list)
        self.assertIs(is_choice(web, pairs), True, (web.ties(), pairs))
        self.assertEqual(len(pairs), len(most(web)))

    def hold_spared(self, web):
        """A choice for each spare point, None for the others."""
        spare = kinds(web)[0]
        for point in range(web.size()):
            pairs = spared(web, point)
            if point in spare:
                self.hold_best(web, pairs)
                self.assertIn(point, left(web, pairs))
            else:
                self.assertIsNone(pairs, (web.ties(), point))

    def hold_taken(self, web, a, b, there):
        """A choice that has the tie, in either order of its ends, or None."""
        for pairs in (taken_in(web, a, b), taken_in(web, b, a)):
            if there:
                self.hold_best(web, pairs)
                self.assertIn((min(a, b), max(a, b)), pairs)
            else:
                self.assertIsNone(pairs, (web.ties(), a, b))

    def hold_all(self, web):
        """All answers of a web, held against all its choices of most pairs."""
        known = best_choices(web)
        spare = self.hold_kinds(web)[0]
        self.assertEqual(spare, sorted({point for pairs in known for point in left(web, pairs)}), web.ties())
        self.hold_spared(web)
        taken = {pair for pairs in known for pair in pairs}
        for a, b, weight in web.ties():
            self.hold_taken(web, a, b, (a, b) in taken)

    def hold_by_counting(self, web):
        """All answers of a web that has too many choices to try."""
        self.hold_kinds(web)
        self.hold_spared(web)
        number = len(most(web))
        for a, b, weight in web.ties():
            self.hold_taken(web, a, b, len(most(without(web, a, b))) == number - 1)


class SmallTest(SpareCase):
    def test_every_web_of_up_to_five_points(self):
        for many in range(6):
            for web in every_web(many):
                self.hold_all(web)

    def test_some_webs_of_six_to_ten_points(self):
        chance = random.Random(31)
        for many, times in ((6, 200), (7, 100), (8, 60), (9, 30), (10, 10)):
            for time in range(times):
                self.hold_all(chance_web(chance, many, chance.choice((15, 25, 35, 50, 70))))

    def test_webs_without_ties(self):
        for many in range(25):
            web = Web(many, [])
            self.assertEqual(kinds(web), (list(range(many)), [], []))
            for point in range(many):
                self.assertEqual(spared(web, point), [])

    def test_one_tie(self):
        for weight in (0, 1, -1, SIXTY, -SIXTY):
            web = Web(5, [(3, 1, weight)])
            self.assertEqual(kinds(web), ([0, 2, 4], [], [1, 3]))
            self.assertEqual([spared(web, point) for point in range(5)], [[(1, 3)], None, [(1, 3)], None, [(1, 3)]])
            self.assertEqual(taken_in(web, 1, 3), [(1, 3)])
            self.assertEqual(taken_in(web, 3, 1), [(1, 3)])

    def test_names_of_arguments(self):
        for function, names in ((kinds, ["web"]), (spared, ["web", "a"]), (taken_in, ["web", "a", "b"])):
            self.assertEqual(list(inspect.signature(function).parameters), names)


class KindsTest(SpareCase):
    def test_all_points_are_spare(self):
        for many in range(3, 24, 2):
            for web in (web_of(many, round_ring(range(many))), full_web(many)):
                self.assertEqual(self.hold_kinds(web), (list(range(many)), [], []))
        web = web_of(13, [tie for at in range(1, 13, 2) for tie in round_ring([0, at, at + 1])])
        self.assertEqual(self.hold_kinds(web), (list(range(13)), [], []))
        web = web_of(6, round_ring([0, 2, 4]) + round_ring([1, 3, 5]))
        self.assertEqual(self.hold_kinds(web), (list(range(6)), [], []))

    def test_all_points_are_rest(self):
        self.assertEqual(kinds(Web(0, [])), ([], [], []))
        for many in range(2, 25, 2):
            for web in (web_of(many, along_row(range(many))), full_web(many)):
                self.assertEqual(self.hold_kinds(web), ([], [], list(range(many))))
        self.assertEqual(self.hold_kinds(web_of(8, [(0, 1)] + NESTED)), ([], [], list(range(8))))

    def test_none_are_rest(self):
        for many in range(3, 24, 2):
            web = web_of(many, along_row(range(many)))
            self.assertEqual(self.hold_kinds(web), (list(range(0, many, 2)), list(range(1, many, 2)), []))

    def test_all_three_kinds(self):
        # A star of 0 with the rays 1, 2 and the triangle 3 4 5; the row 6 7 8 9 hangs on 0.
        web = web_of(10, [(0, 1), (0, 2), (0, 3), (0, 6)] + round_ring([3, 4, 5]) + along_row([6, 7, 8, 9]))
        self.assertEqual(self.hold_kinds(web), ([1, 2, 3, 4, 5], [0], [6, 7, 8, 9]))
        self.hold_all(web)
        # The same with the numbers told backwards.
        turned = web_of(10, [(9 - a, 9 - b) for a, b, weight in web.ties()])
        self.assertEqual(self.hold_kinds(turned), ([4, 5, 6, 7, 8], [9], [0, 1, 2, 3]))
        # Two beside that are tied to one another, three spare on each, and a ring of four.
        couples = [(0, 1), (0, 2), (0, 3), (0, 4), (1, 5), (1, 6), (1, 7), (1, 8)] + round_ring([8, 9, 10, 11])
        web = web_of(12, couples)
        self.assertEqual(self.hold_kinds(web), ([2, 3, 4, 5, 6, 7], [0, 1], [8, 9, 10, 11]))
        self.hold_all(web)

    def test_webs_told_by_hand(self):
        chance = random.Random(32)
        for web, number in shapes():
            told = self.hold_kinds(web)
            self.hold_spared(web)
            self.assertEqual(kinds(weighed(chance, web)), told)

    def test_any_webs_of_24_points(self):
        chance = random.Random(33)
        met = set()
        for times in range(100):
            web = chance_web(chance, 24, chance.choice((2, 4, 6, 8, 12)))
            told = self.hold_kinds(web)
            met.add(tuple(bool(points) for points in told))
            self.hold_spared(web)
        self.assertIn((True, True, True), met)


class TakenTest(SpareCase):
    def test_ties_that_no_choice_of_most_pairs_has(self):
        # A row of four points: the middle tie is in none. Both beside of the second web are tied to one another.
        web = web_of(4, [(0, 1), (1, 2), (2, 3)])
        self.hold_taken(web, 1, 2, False)
        self.assertEqual(taken_in(web, 0, 1), [(0, 1), (2, 3)])
        self.assertEqual(taken_in(web, 3, 2), [(0, 1), (2, 3)])
        web = web_of(6, [(0, 1), (0, 2), (0, 3), (1, 4), (1, 5)])
        self.hold_taken(web, 0, 1, False)
        for a, b in ((0, 2), (0, 3), (1, 4), (1, 5)):
            self.hold_taken(web, a, b, True)

    def test_rays_of_a_star(self):
        web = web_of(24, [(12, point) for point in range(24) if point != 12])
        for point in web.tied(12):
            pair = (min(12, point), max(12, point))
            self.assertEqual(taken_in(web, 12, point), [pair])
            self.assertEqual(taken_in(web, point, 12), [pair])

    def test_webs_told_by_hand(self):
        for web, number in shapes():
            if len(web.ties()) <= 40:
                self.hold_by_counting(web)

    def test_any_webs_of_24_points(self):
        chance = random.Random(34)
        for times in range(20):
            self.hold_by_counting(chance_web(chance, 24, chance.choice((3, 6, 9, 12))))

    def test_all_ties_of_24_points(self):
        for many in (23, 24):
            web = full_web(many, -SIXTY)
            for a, b in ((0, 1), (0, many - 1), (7, 20)):
                self.hold_taken(web, a, b, True)

    def test_weights_of_every_sign_change_nothing(self):
        chance = random.Random(35)
        for times in range(30):
            web = chance_web(chance, 9, 30)
            other = weighed(chance, web)
            for a, b, weight in web.ties():
                self.hold_taken(other, a, b, taken_in(web, a, b) is not None)


class RefusalTest(SpareCase):
    def refused(self, web, a, b):
        for ends in ((a, b), (b, a)):
            with self.assertRaises(WebError) as caught:
                taken_in(web, *ends)
            self.assertIs(type(caught.exception), NoTie)

    def test_two_points_that_are_not_tied(self):
        web = web_of(4, [(0, 1), (1, 2), (2, 3)])
        for a, b in ((0, 2), (0, 3), (1, 3)):
            self.refused(web, a, b)
        self.refused(Web(24, []), 0, 23)
        for web in every_web(4):
            for a in range(4):
                for b in range(4):
                    if web.weight(a, b) is None:
                        self.refused(web, a, b)

    def test_a_point_and_itself(self):
        for many in (1, 2, 5, 24):
            web = full_web(many)
            for point in range(many):
                self.refused(web, point, point)

    def test_numbers_that_are_no_points(self):
        for web in (full_web(4), full_web(24), Web(3, []), Web(0, [])):
            for number in (-1, -2, web.size(), web.size() + 1, *FAR_OFF):
                for other in (-1, 0, 1, web.size() - 1, web.size(), *FAR_OFF):
                    self.refused(web, number, other)

    def test_a_tie_of_weight_nought_is_one(self):
        self.assertEqual(taken_in(Web(2, [(0, 1, 0)]), 1, 0), [(0, 1)])

    def test_a_refusal_changes_nothing(self):
        web = web_of(4, [(0, 1), (1, 2), (2, 3)])
        before = seen(web)
        self.refused(web, 0, 3)
        self.assertEqual(seen(web), before)
        self.assertEqual(taken_in(web, 0, 1), [(0, 1), (2, 3)])


class BelongingTest(SpareCase):
    def setUp(self):
        self.web = web_of(10, [(0, 1), (0, 2), (0, 3), (0, 6)] + round_ring([3, 4, 5]) + along_row([6, 7, 8, 9]))

    def told(self, web):
        return (kinds(web), [spared(web, point) for point in range(10)],
                [taken_in(web, a, b) for a, b, weight in web.ties()])

    def test_the_web_stays_as_it_was(self):
        before = seen(self.web)
        self.told(self.web)
        self.assertEqual(seen(self.web), before)

    def test_what_is_told_may_be_changed_afterwards(self):
        before = seen(self.web)
        answers = self.told(self.web)
        for lists in answers:
            for points in lists:
                if points is not None:
                    points.reverse()
                    points.append(points[0])
        self.hold_all(self.web)
        for lists in self.told(self.web):
            for points in lists:
                if points is not None:
                    points.clear()
        self.hold_all(self.web)
        self.assertEqual(seen(self.web), before)

    def test_each_list_is_one_of_its_own(self):
        web = Web(0, [])
        for points in kinds(web):
            points.append(5)
            self.assertEqual(kinds(web), ([], [], []))
        spare, beside, rest = kinds(Web(2, [(0, 1, 1)]))
        spare.append(7)
        self.assertEqual((beside, rest), ([], [0, 1]))

    def test_the_same_asked_again_keeps_the_words_again(self):
        chance = random.Random(36)
        for times in range(30):
            web = chance_web(chance, 10, 25)
            first = self.told(web)
            self.told(self.web)
            self.hold_all(web)
            self.assertEqual(self.told(web), first)
            self.assertEqual(self.told(Web(10, web.ties())), first)


if __name__ == "__main__":
    unittest.main()
