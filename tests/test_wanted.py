import copy
import inspect
import itertools
import random
import unittest

from pairsheath.errors import TooMany, WebError
from pairsheath.most import most
from pairsheath.parts import parts
from pairsheath.wanted import copied, copies_of, counted, wanted
from pairsheath.webs import Web
from trying import (
    ENDLESS, NESTED, SIXTY, ToldCase, along_row, chance_web, every_web, full_web, round_ring, seen, shapes, web_of,
    weighed,
)


def every_way(ties, numbers):
    """Each way to tell each tie some times so that each point has as many ends as its number, as lists of times."""
    if not ties:
        return [] if any(numbers) else [[]]
    a, b = ties[0][:2]
    known = []
    for times in range(min(numbers[a], numbers[b]) + 1):
        rest = list(numbers)
        rest[a] -= times
        rest[b] -= times
        known += [[times] + further for further in every_way(ties[1:], rest)]
    return known


def chance_numbers(chance, many, most_each):
    """Any numbers of so many points, together at most 24."""
    numbers = [0] * many
    for time in range(chance.randrange(25)):
        point = chance.randrange(many)
        numbers[point] += numbers[point] < most_each
    return numbers


class WantedCase(ToldCase):
    def hold_ties(self, web, numbers, ties):
        """Hold a list against the words: each tie once, with how many times, so that each point has its number."""
        self.assertIs(type(ties), list)
        self.assertEqual(ties, sorted(ties))
        self.assertEqual(len({(a, b) for a, b, times in ties}), len(ties))
        ends = [0] * web.size()
        for told in ties:
            self.assertIs(type(told), tuple)
            a, b, times = told
            self.assertEqual([type(number) for number in told], [int] * 3)
            self.assertLess(a, b)
            self.assertIsNotNone(web.weight(a, b))
            self.assertGreaterEqual(times, 1)
            ends[a] += times
            ends[b] += times
        self.assertEqual(ends, numbers, (web.ties(), ties))

    def hold_reason(self, web, numbers, points):
        """Hold points against the words; this alone shows that there are no such ties."""
        self.hold_out(web, points)
        self.assertTrue(all(numbers[point] >= 1 for point in points), (web.ties(), numbers, points))
        unwanted = [point for point in range(web.size()) if numbers[point] == 0]
        needed = 0
        for part in parts(web, points + unwanted):
            together = sum(numbers[point] for point in part)
            needed += together if len(part) == 1 else together % 2
        self.assertGreater(needed, sum(numbers[point] for point in points), (web.ties(), numbers, points))

    def hold(self, web, numbers):
        """Hold what is told against the words; whether there are such ties."""
        told = wanted(web, numbers)
        self.assertIs(type(told), tuple)
        self.assertEqual(len(told), 2)
        self.assertIn(told[0], ("ties", "none"))
        if told[0] == "ties":
            self.hold_ties(web, numbers, told[1])
        else:
            self.hold_reason(web, numbers, told[1])
        return told[0] == "ties"

    def hold_all(self, web, numbers):
        """Hold what is told against all ways of a web."""
        self.assertEqual(self.hold(web, numbers), bool(every_way(web.ties(), numbers)), (web.ties(), numbers))

    def refuse(self, web, numbers):
        before = list(numbers)
        with self.assertRaises(TooMany):
            wanted(web, numbers)
        self.assertEqual(numbers, before)


class SmallTest(WantedCase):
    def test_every_web_of_up_to_three_points(self):
        for many, most_each in ((0, 0), (1, 24), (2, 9), (3, 5)):
            for web in every_web(many):
                for numbers in itertools.product(range(most_each + 1), repeat=many):
                    if sum(numbers) <= 24:
                        self.hold_all(web, list(numbers))

    def test_every_web_of_four_points(self):
        for web in every_web(4):
            for numbers in itertools.product(range(3), repeat=4):
                self.hold_all(web, list(numbers))

    def test_some_webs_of_four_to_seven_points(self):
        chance = random.Random(101)
        for many, most_each, times in ((4, 8, 300), (5, 4, 300), (6, 3, 150), (7, 2, 100)):
            for time in range(times):
                web = chance_web(chance, many, chance.choice((20, 35, 50)))
                self.hold_all(web, chance_numbers(chance, many, most_each))

    def test_two_points(self):
        web = Web(2, [(1, 0, -7)])
        for number in range(1, 13):
            self.assertEqual(wanted(web, [number, number]), ("ties", [(0, 1, number)]))
            self.assertFalse(self.hold(web, [number, number - 1]))
            self.assertFalse(self.hold(web, [number - 1, number]))

    def test_a_web_without_points(self):
        self.assertEqual(wanted(Web(0, []), []), ("ties", []))

    def test_names_of_arguments(self):
        self.assertEqual(list(inspect.signature(wanted).parameters), ["web", "numbers"])


class EdgesTest(WantedCase):
    def test_numbers_all_nought(self):
        chance = random.Random(102)
        for many in range(25):
            for share in (0, 30, 100):
                self.assertEqual(wanted(chance_web(chance, many, share), [0] * many), ("ties", []))

    def test_a_point_that_wants_more_than_its_neighbours_have(self):
        for rays in range(1, 12):
            web = web_of(rays + 1, [(0, ray) for ray in range(1, rays + 1)])
            self.assertTrue(self.hold(web, [rays] + [1] * rays))
            self.assertEqual(wanted(web, [rays] + [1] * rays)[1], [(0, ray, 1) for ray in range(1, rays + 1)])
            self.assertFalse(self.hold(web, [rays + 1] + [1] * rays))
            self.assertFalse(self.hold(web, [rays + 2] + [1] * rays))
        # Even where the other points have enough for one another.
        web = web_of(5, [(0, 1)] + round_ring([1, 2, 3, 4]))
        self.assertTrue(self.hold(web, [2, 4, 2, 2, 2]))
        self.assertFalse(self.hold(web, [5, 4, 3, 2, 2]))
        self.assertFalse(self.hold(web, [6, 4, 2, 2, 2]))

    def test_lone_points(self):
        for many in (1, 2, 5, 24):
            web = Web(many, [])
            for number in (1, 2, 24):
                self.assertFalse(self.hold(web, [0] * (many - 1) + [number]))
        web = web_of(4, [(0, 1), (1, 2)])
        self.assertFalse(self.hold(web, [1, 1, 0, 1]))
        self.assertFalse(self.hold(web, [1, 1, 0, 2]))
        self.assertTrue(self.hold(web, [1, 2, 1, 0]))

    def test_points_that_are_lone_without_those_of_number_nought(self):
        row = web_of(3, along_row(range(3)))
        self.assertFalse(self.hold(row, [1, 0, 1]))
        self.assertFalse(self.hold(row, [3, 0, 0]))
        self.assertTrue(self.hold(row, [1, 2, 1]))
        ring = web_of(6, round_ring(range(6)))
        self.assertFalse(self.hold(ring, [0, 2, 0, 2, 0, 2]))
        self.assertFalse(self.hold(ring, [0, 1, 3, 2, 0, 4]))
        self.assertTrue(self.hold(ring, [0, 1, 3, 2, 0, 0]))

    def test_parts_whose_numbers_are_odd_together(self):
        for numbers in ([1, 1, 1], [3, 3, 3], [5, 5, 1], [8, 8, 7]):
            self.assertFalse(self.hold(full_web(3), numbers))
        for numbers in ([2, 2, 2], [1, 1, 2], [8, 8, 8], [0, 5, 5]):
            self.assertTrue(self.hold(full_web(3), numbers))
        web = web_of(7, round_ring([0, 1, 2]) + round_ring([3, 4, 5]) + [(6, 0), (6, 3)])
        self.assertTrue(self.hold(web, [1, 1, 1, 1, 1, 1, 2]))
        self.assertFalse(self.hold(web, [1, 1, 1, 1, 1, 1, 0]))
        self.assertFalse(self.hold(web, [1, 1, 1, 1, 1, 1, 1]))
        self.assertFalse(self.hold(web, [1, 1, 1, 2, 2, 3, 1]))

    def test_numbers_of_which_one_is_too_great_for_its_ring(self):
        for many in range(3, 9):
            ring = web_of(many, round_ring(range(many)))
            self.assertTrue(self.hold(ring, [2] * many))
            self.assertEqual(self.hold(ring, [1] * many), many % 2 == 0)
            self.assertFalse(self.hold(ring, [6] + [2] * (many - 1)))

    def test_weights_play_no_part(self):
        chance = random.Random(103)
        for times in range(60):
            web = chance_web(chance, 8, 40)
            numbers = chance_numbers(chance, 8, 3)
            self.assertEqual(self.hold(weighed(chance, web), numbers), self.hold(weighed(chance, web, (1,)), numbers))


class TogetherTest(WantedCase):
    def test_together_just_24(self):
        self.assertEqual(wanted(full_web(2), [12, 12]), ("ties", [(0, 1, 12)]))
        self.assertEqual(wanted(full_web(3), [8, 8, 8]), ("ties", [(0, 1, 4), (0, 2, 4), (1, 2, 4)]))
        self.assertFalse(self.hold(full_web(1), [24]))
        self.assertFalse(self.hold(full_web(2), [11, 13]))
        self.assertFalse(self.hold(full_web(2), [24, 0]))
        self.assertTrue(self.hold(full_web(24), [1] * 24))
        self.assertTrue(self.hold(full_web(24), [12] + [1] * 12 + [0] * 11))
        self.assertFalse(self.hold(full_web(24), [13] + [1] * 11 + [0] * 12))
        self.assertTrue(self.hold(web_of(12, round_ring(range(12))), [2] * 12))
        self.assertTrue(self.hold(web_of(8, [(0, 1)] + NESTED), [3] * 8))

    def test_any_numbers_of_together_24_or_somewhat_less(self):
        chance = random.Random(104)
        found = []
        for times in range(300):
            many = chance.choice((4, 6, 9, 12, 18, 24))
            web = chance_web(chance, many, chance.choice((10, 20, 40, 100)))
            numbers = [0] * many
            for time in range(chance.choice((24, 24, 23, 22))):
                numbers[chance.randrange(many)] += 1
            found.append(self.hold(web, numbers))
        self.assertGreater(found.count(True), 30)
        self.assertGreater(found.count(False), 30)

    def test_numbers_that_ties_told_by_chance_come_to(self):
        chance = random.Random(105)
        for times in range(200):
            many = chance.choice((3, 5, 8, 13, 24))
            web = chance_web(chance, many, chance.choice((15, 30, 60)))
            numbers = [0] * many
            for time in range(12 if web.ties() else 0):
                for end in chance.choice(web.ties())[:2]:
                    numbers[end] += 1
            self.assertTrue(self.hold(web, numbers))

    def test_all_numbers_one(self):
        for web, number in shapes():
            self.assertEqual(self.hold(web, [1] * web.size()), 2 * number == web.size())
            self.assertEqual(2 * len(most(web)) == web.size(), wanted(web, [1] * web.size())[0] == "ties")

    def test_together_more_than_24_is_refused(self):
        self.refuse(full_web(1), [25])
        self.refuse(full_web(2), [13, 12])
        self.refuse(full_web(2), [13, 13])
        self.refuse(full_web(2), [25, 0])
        self.refuse(full_web(3), [0, 0, 26])
        self.refuse(full_web(3), [8, 8, 9])
        self.refuse(full_web(24), [1] * 23 + [2])
        self.refuse(full_web(24), [2] * 24)
        self.refuse(full_web(24), [24] * 24)
        self.refuse(Web(24, []), [2] + [1] * 23)
        self.refuse(web_of(12, round_ring(range(12))), [2] * 11 + [3])

    def test_numbers_without_bound_are_refused_likewise(self):
        for number in (100, 10**9, SIXTY, ENDLESS):
            self.refuse(full_web(1), [number])
            self.refuse(full_web(2), [number, number])
            self.refuse(full_web(24), [0] * 23 + [number])

    def test_a_refusal_is_a_web_error(self):
        with self.assertRaises(WebError):
            wanted(full_web(2), [20, 20])
        self.assertTrue(self.hold(full_web(2), [12, 12]))


class OwnTest(WantedCase):
    """The steps by way of copies of points."""

    def test_copies(self):
        self.assertEqual(copies_of([2, 0, 1, 3]), [0, 0, 2, 3, 3, 3])
        self.assertEqual(copies_of([0, 0]), [])
        web = copied(Web(4, [(0, 2, 5), (2, 3, -1), (1, 2, 4)]), [0, 0, 2, 3])
        self.assertEqual([(a, b) for a, b, weight in web.ties()], [(0, 2), (1, 2), (2, 3)])

    def test_counted_ties(self):
        copies = [0, 0, 1, 1, 2, 2]
        self.assertEqual(counted(copies, [(0, 2), (1, 3), (4, 5)][:2]), [(0, 1, 2)])
        self.assertEqual(counted(copies, [(0, 4), (1, 2), (3, 5)]), [(0, 1, 1), (0, 2, 1), (1, 2, 1)])
        self.assertEqual(counted(copies, []), [])


class BelongingTest(WantedCase):
    def setUp(self):
        self.web = web_of(5, round_ring(range(5)) + [(1, 3)])
        self.numbers = [2, 3, 1, 3, 1]
        self.too_few = [5, 1, 1, 1, 2]

    def test_what_is_handed_in_stays_as_it_was(self):
        before = seen(self.web)
        for numbers in (self.numbers, self.too_few):
            kept = list(numbers)
            self.hold(self.web, numbers)
            self.assertEqual(numbers, kept)
        self.assertEqual(seen(self.web), before)

    def test_what_is_told_may_be_changed_afterwards(self):
        for numbers, awaited in ((self.numbers, "ties"), (self.too_few, "none"), ([0] * 5, "ties")):
            told = wanted(self.web, numbers)
            first = copy.deepcopy(told)
            self.assertEqual(told[0], awaited)
            told[1].append(0)
            told[1].reverse()
            self.hold(self.web, numbers)
            self.assertEqual(wanted(self.web, numbers), first)

    def test_numbers_changed_afterwards_change_nothing_told(self):
        numbers = list(self.numbers)
        told = wanted(self.web, numbers)
        kept = copy.deepcopy(told)
        numbers[0] = 9
        self.assertEqual(told, kept)
        self.assertFalse(self.hold(self.web, numbers))
        self.assertIsNot(wanted(self.web, numbers)[1], numbers)

    def test_the_same_asked_again_keeps_the_words_again(self):
        chance = random.Random(106)
        for times in range(50):
            web = chance_web(chance, 9, 40)
            numbers = chance_numbers(chance, 9, 4)
            first = wanted(web, numbers)
            wanted(self.web, self.numbers)
            self.hold(web, numbers)
            self.assertEqual(wanted(web, numbers), first)
            self.assertEqual(wanted(Web(9, web.ties()), list(numbers)), first)


if __name__ == "__main__":
    unittest.main()
