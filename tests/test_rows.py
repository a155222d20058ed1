import inspect
import itertools
import random
import unittest

from pairsheath import rows
from pairsheath.choices import is_choice, left
from pairsheath.rows import between, exchanged, exchanged_ring, turns, turns_ring
from pairsheath.webs import Web
from trying import FAR_OFF, SIXTY, chance_choice, every_choice, every_web, full_web, seen, web_of


def steps_of(points, closed):
    """Each two neighbours of a list; the last and the first too where it is closed."""
    steps = [(points[at], points[at + 1]) for at in range(len(points) - 1)]
    return steps + [(points[-1], points[0])] if closed else steps


def is_pair(pairs, step):
    return step in pairs or step[::-1] in pairs


def row_by_words(web, pairs, row):
    """Whether a list is a row, as the promise has it, word by word."""
    if len(row) < 2 or any(row.count(point) > 1 for point in row):
        return False
    steps = steps_of(row, False)
    if any(web.weight(*step) is None for step in steps):
        return False
    for first, second in zip(steps, steps[1:]):
        if [is_pair(pairs, first), is_pair(pairs, second)].count(True) != 1:
            return False
    for end, step in ((row[0], steps[0]), (row[-1], steps[-1])):
        if not is_pair(pairs, step) and end not in left(web, pairs):
            return False
    return True


def ring_by_words(web, pairs, ring):
    """Whether a list is a ring, as the promise has it, word by word."""
    if len(ring) < 4 or len(ring) % 2 != 0 or any(ring.count(point) > 1 for point in ring):
        return False
    steps = steps_of(ring, True)
    if any(web.weight(*step) is None for step in steps):
        return False
    for first, second in zip(steps, steps[1:] + steps[:1]):
        if [is_pair(pairs, first), is_pair(pairs, second)].count(True) != 1:
            return False
    return True


def begun_anywhere(ring):
    """A ring begun at each place and either way round."""
    for way in (ring, ring[::-1]):
        for place in range(len(way)):
            yield way[place:] + way[:place]


class RowsCase(unittest.TestCase):
    def told(self, web, pairs, points):
        """Whether a list is a row and whether it is a ring, held to be told alike from its other end."""
        told = []
        for function in (turns, turns_ring):
            answer = function(web, pairs, points)
            self.assertIs(type(answer), bool)
            self.assertIs(function(web, pairs, points[::-1]), answer, points)
            told.append(answer)
        return tuple(told)

    def is_row(self, web, pairs, row):
        self.assertIs(self.told(web, pairs, row)[0], True, (pairs, row))

    def no_row(self, web, pairs, row):
        self.assertIs(self.told(web, pairs, row)[0], False, (pairs, row))

    def is_ring(self, web, pairs, ring):
        self.assertIs(self.told(web, pairs, ring)[1], True, (pairs, ring))

    def no_ring(self, web, pairs, ring):
        self.assertIs(self.told(web, pairs, ring)[1], False, (pairs, ring))


class TurnsTest(RowsCase):
    def setUp(self):
        # 0 - 1 - 2 - 3 - 4 - 5 one behind the other, and 6 tied to 2.
        self.web = Web(7, [(0, 1, 4), (1, 2, -SIXTY), (2, 3, 0), (3, 4, SIXTY), (4, 5, -1), (2, 6, 8)])

    def test_two_points_that_are_a_pair(self):
        for pairs in ([(0, 1)], [(0, 1), (2, 3), (4, 5)], [(0, 1), (2, 6)]):
            for a, b in pairs:
                self.is_row(self.web, pairs, [a, b])

    def test_two_points_tied_and_both_left_out(self):
        self.is_row(self.web, [], [0, 1])
        self.is_row(self.web, [(0, 1), (4, 5)], [2, 3])
        self.is_row(self.web, [(0, 1), (4, 5)], [2, 6])

    def test_an_end_in_another_pair(self):
        self.no_row(self.web, [(0, 1)], [1, 2])
        self.no_row(self.web, [(0, 1), (2, 3)], [1, 2])
        self.no_row(self.web, [(1, 2), (3, 4)], [2, 3, 4, 5])
        self.no_row(self.web, [(0, 1), (3, 4)], [1, 2, 3, 4])
        self.no_row(self.web, [(0, 1), (2, 3), (4, 5)], [1, 2, 3, 4])
        self.no_row(self.web, [(2, 6), (4, 5)], [0, 1, 2])

    def test_rows_that_begin_or_end_by_a_pair(self):
        self.is_row(self.web, [(0, 1), (2, 3)], [0, 1, 2, 3])
        self.is_row(self.web, [(0, 1), (2, 3)], [0, 1, 2, 3, 4])
        self.is_row(self.web, [(1, 2), (3, 4)], [0, 1, 2, 3, 4])
        self.is_row(self.web, [(1, 2), (3, 4)], [0, 1, 2, 3, 4, 5])
        self.is_row(self.web, [(0, 1), (2, 3), (4, 5)], [0, 1, 2, 3, 4, 5])
        self.is_row(self.web, [(1, 2)], [0, 1, 2, 6])
        self.is_row(self.web, [(1, 2)], [1, 2, 6])

    def test_fewer_than_two_points(self):
        for pairs in ([], [(0, 1)]):
            self.no_row(self.web, pairs, [])
            for number in tuple(range(-1, 8)) + FAR_OFF:
                self.no_row(self.web, pairs, [number])

    def test_a_point_twice(self):
        for pairs in ([], [(0, 1)], [(1, 2)], [(0, 1), (2, 3)]):
            self.no_row(self.web, pairs, [0, 1, 0])
            self.no_row(self.web, pairs, [0, 0])
            self.no_row(self.web, pairs, [0, 1, 2, 1])
            self.no_row(self.web, pairs, [0, 1, 2, 1, 0])
        ring = web_of(5, [(0, 1), (1, 2), (2, 3), (3, 4), (2, 4)])
        self.no_row(ring, [(1, 2), (3, 4)], [0, 1, 2, 3, 4, 2])
        # All is as in a row, but that it comes back along ties gone before.
        self.no_row(ring, [(1, 2), (3, 4)], [0, 1, 2, 3, 4, 2, 1])
        self.no_row(ring, [(1, 2), (3, 4)], [0, 1, 2, 3, 4, 2, 1, 0])

    def test_neighbours_that_are_not_tied(self):
        self.no_row(self.web, [], [0, 2])
        self.no_row(self.web, [(1, 2)], [0, 1, 2, 5])
        self.no_row(self.web, [(1, 2)], [3, 1, 2, 6])
        self.no_row(self.web, [(0, 1), (4, 5)], [0, 1, 4, 5])
        self.no_row(Web(2, []), [], [0, 1])

    def test_following_ties_both_out_of_the_choice(self):
        self.no_row(self.web, [], [0, 1, 2])
        self.no_row(self.web, [(4, 5)], [0, 1, 2, 3])
        self.no_row(self.web, [(0, 1)], [0, 1, 2, 3])
        self.no_row(self.web, [(1, 2)], [0, 1, 2, 3, 4])

    def test_following_ties_both_in_the_list(self):
        # No choice has two ties that share a point: the pairs are none, but the words are the same.
        self.no_row(self.web, [(0, 1), (1, 2)], [0, 1, 2])

    def test_numbers_that_are_no_points(self):
        for stranger in (-1, -7, 7, 8, 24) + FAR_OFF:
            for pairs in ([], [(0, 1)], [(0, 1), (2, 3)]):
                for point in range(7):
                    self.no_row(self.web, pairs, [point, stranger])
                self.no_row(self.web, pairs, [0, 1, stranger])
                self.no_row(self.web, pairs, [stranger, 2, 3])
                self.no_row(self.web, pairs, [0, 1, stranger, 2])
                self.no_row(self.web, pairs, [stranger, stranger])
                self.no_row(self.web, pairs, [stranger, stranger + 1])

    def test_rows_of_the_choice_without_pairs(self):
        for web in every_web(4):
            for points in itertools.permutations(range(4), 2):
                self.assertEqual(self.told(web, [], list(points)), (web.weight(*points) is not None, False))
            for length in (1, 3, 4):
                for points in itertools.permutations(range(4), length):
                    self.no_row(web, [], list(points))

    def test_rows_of_24_points(self):
        web = web_of(24, [(at, at + 1) for at in range(23)])
        for pairs in ([(at, at + 1) for at in range(0, 24, 2)], [(at, at + 1) for at in range(1, 23, 2)]):
            self.is_row(web, pairs, list(range(24)))
            self.no_row(web, pairs[:5] + pairs[6:], list(range(24)))

    def test_every_list_of_few_numbers_in_small_webs(self):
        for many in range(5):
            numbers = range(-1, many + 1)
            lists = [list(some) for length in range(4) for some in itertools.product(numbers, repeat=length)]
            lists += [list(some) for some in itertools.permutations(range(many), 4)]
            for web in every_web(many):
                for pairs in every_choice(web):
                    for points in lists:
                        self.assertIs(turns(web, pairs, points), row_by_words(web, pairs, points), (pairs, points))
                        self.assertIs(turns_ring(web, pairs, points), ring_by_words(web, pairs, points))

    def test_every_list_of_unlike_points_of_six(self):
        wheel = web_of(6, [(0, 1), (1, 2), (2, 3), (3, 4), (4, 5), (0, 5), (0, 3), (1, 4)])
        lists = [list(some) for length in range(7) for some in itertools.permutations(range(6), length)]
        for web in (wheel, full_web(6)):
            for pairs in every_choice(web)[::4]:
                for points in lists[::3]:
                    wanted = (row_by_words(web, pairs, points), ring_by_words(web, pairs, points))
                    self.assertEqual(self.told(web, pairs, points), wanted, (pairs, points))


class TurnsRingTest(RowsCase):
    def setUp(self):
        couples = [(0, 1), (1, 2), (2, 3), (3, 4), (4, 5), (0, 5), (0, 3), (1, 3)]
        self.web = web_of(6, couples, -SIXTY)

    def test_rings_begun_anywhere_and_either_way_round(self):
        for pairs in ([(0, 1), (2, 3)], [(0, 3), (1, 2)], [(0, 1), (2, 3), (4, 5)], [(0, 3), (1, 2), (4, 5)]):
            for ring in begun_anywhere([0, 1, 2, 3]):
                self.is_ring(self.web, pairs, ring)
        for pairs in ([(0, 1), (2, 3), (4, 5)], [(0, 5), (1, 2), (3, 4)]):
            for ring in begun_anywhere([0, 1, 2, 3, 4, 5]):
                self.is_ring(self.web, pairs, ring)
        web = full_web(24)
        points = [(7 * at) % 24 for at in range(24)]
        for first in (0, 1):
            pairs = sorted(tuple(sorted((points[at], points[(at + 1) % 24]))) for at in range(first, 24, 2))
            for ring in begun_anywhere(points):
                self.is_ring(web, pairs, ring)
                self.no_ring(web, pairs[1:], ring)

    def test_an_odd_number_of_points(self):
        triangle = web_of(3, [(0, 1), (1, 2), (0, 2)])
        for pairs in every_choice(triangle):
            for ring in begun_anywhere([0, 1, 2]):
                self.no_ring(triangle, pairs, ring)
        five = web_of(5, [(0, 1), (1, 2), (2, 3), (3, 4), (0, 4)])
        for pairs in every_choice(five):
            for ring in begun_anywhere([0, 1, 2, 3, 4]):
                self.no_ring(five, pairs, ring)

    def test_two_points_and_fewer(self):
        for pairs in ([], [(0, 1)], [(0, 1), (2, 3)]):
            self.no_ring(self.web, pairs, [])
            self.no_ring(self.web, pairs, [0])
            self.no_ring(self.web, pairs, [0, 1])
            self.no_ring(self.web, pairs, [1, 0])

    def test_a_point_twice(self):
        web = web_of(4, [(0, 1), (1, 2), (2, 3), (0, 3)])
        for pairs in every_choice(web):
            self.no_ring(web, pairs, [0, 1, 0, 1])
            self.no_ring(web, pairs, [0, 1, 2, 1])
            self.no_ring(web, pairs, [0, 1, 2, 3, 0, 1, 2, 3])
            self.no_ring(web, pairs, [0, 1, 2, 3, 2, 1])

    def test_the_last_not_tied_with_the_first(self):
        web = web_of(6, [(0, 1), (1, 2), (2, 3), (3, 4), (4, 5)])
        for pairs in ([(0, 1), (2, 3)], [(1, 2)], [(0, 1), (2, 3), (4, 5)], [(1, 2), (3, 4)], []):
            self.no_ring(web, pairs, [0, 1, 2, 3])
            self.no_ring(web, pairs, [0, 1, 2, 3, 4, 5])
            self.no_ring(web, pairs, [2, 3, 0, 1])

    def test_following_ties_both_out_of_the_choice(self):
        for pairs in ([], [(0, 1)], [(1, 2)], [(2, 3)], [(0, 3)], [(0, 5), (1, 2)], [(2, 3), (4, 5)]):
            for ring in begun_anywhere([0, 1, 2, 3]):
                self.no_ring(self.web, pairs, ring)
        for pairs in ([(0, 1), (2, 3)], [(0, 1), (3, 4)], [(1, 2), (4, 5)], [(0, 3), (4, 5)], [(0, 5), (1, 3)]):
            for ring in begun_anywhere([0, 1, 2, 3, 4, 5]):
                self.no_ring(self.web, pairs, ring)

    def test_following_ties_both_in_the_list(self):
        # No choice has two ties that share a point: the pairs are none, but the words are the same.
        for ring in begun_anywhere([0, 1, 2, 3]):
            self.no_ring(self.web, [(0, 1), (0, 3)], ring)
            self.no_ring(self.web, [(0, 1), (0, 3), (2, 3)], ring)

    def test_numbers_that_are_no_points(self):
        for stranger in (-1, 6, 24) + FAR_OFF:
            for pairs in ([], [(0, 1)], [(0, 1), (2, 3)]):
                for ring in begun_anywhere([0, 1, 2, stranger]):
                    self.no_ring(self.web, pairs, ring)
                for ring in begun_anywhere([0, 1, stranger, stranger + 1]):
                    self.no_ring(self.web, pairs, ring)
                self.no_ring(self.web, pairs, [stranger] * 4)

    def test_no_ring_of_the_choice_without_pairs(self):
        web = full_web(6)
        for length in range(7):
            for points in itertools.permutations(range(6), length):
                self.no_ring(web, [], list(points))


class ExchangedTest(RowsCase):
    def exchange(self, web, pairs, points, closed):
        """Exchange along a row or ring of a choice, and hold what is told against the words."""
        function = exchanged_ring if closed else exchanged
        told = function(pairs, points)
        self.assertIs(type(told), list)
        self.assertIs(is_choice(web, told), True, (pairs, points, told))
        along = {tuple(sorted(step)) for step in steps_of(points, closed)}
        self.assertEqual(set(told), set(pairs) ^ along, (pairs, points))
        again = turns_ring if closed else turns
        self.assertIs(again(web, told, points), True)
        self.assertEqual(function(told, points), pairs)
        self.assertEqual(function(pairs, points[::-1]), told)
        return told

    def test_rows_told_by_hand(self):
        web = web_of(9, [(0, 1), (1, 2), (2, 3), (3, 4), (4, 5), (6, 7), (2, 8)])
        rows_of = (
            ([], [3, 2], [(2, 3)]),
            ([(2, 3)], [3, 2], []),
            ([(0, 1), (6, 7)], [0, 1], [(6, 7)]),
            ([(1, 2), (3, 4), (6, 7)], [5, 4, 3, 2, 1, 0], [(0, 1), (2, 3), (4, 5), (6, 7)]),
            ([(0, 1), (2, 3), (4, 5), (6, 7)], [0, 1, 2, 3, 4, 5], [(1, 2), (3, 4), (6, 7)]),
            ([(1, 2), (4, 5)], [8, 2, 1], [(2, 8), (4, 5)]),
            ([(1, 2), (4, 5)], [3, 2, 1, 0], [(0, 1), (2, 3), (4, 5)]),
        )
        for pairs, row, wanted in rows_of:
            self.is_row(web, pairs, row)
            self.assertEqual(self.exchange(web, pairs, row, False), wanted)

    def test_rings_told_by_hand(self):
        web = web_of(8, [(0, 1), (1, 2), (2, 3), (0, 3), (3, 4), (4, 5), (0, 5), (6, 7)])
        rings_of = (
            ([(0, 1), (2, 3)], [0, 1, 2, 3], [(0, 3), (1, 2)]),
            ([(0, 1), (2, 3), (4, 5), (6, 7)], [3, 2, 1, 0], [(0, 3), (1, 2), (4, 5), (6, 7)]),
            ([(0, 1), (2, 3), (4, 5), (6, 7)], [2, 3, 4, 5, 0, 1], [(0, 5), (1, 2), (3, 4), (6, 7)]),
        )
        for pairs, points, wanted in rings_of:
            for ring in begun_anywhere(points):
                self.is_ring(web, pairs, ring)
                self.assertEqual(self.exchange(web, pairs, ring, True), wanted)

    def test_a_row_between_points_left_out_gives_one_pair_more(self):
        web = full_web(6)
        for pairs in every_choice(web):
            for length in (2, 4, 6):
                for points in itertools.permutations(range(6), length):
                    row = list(points)
                    ends_out = row[0] in left(web, pairs) and row[-1] in left(web, pairs)
                    if ends_out and turns(web, pairs, row):
                        told = self.exchange(web, pairs, row, False)
                        self.assertEqual(len(told), len(pairs) + 1)

    def test_every_row_and_ring_of_some_webs(self):
        prism = web_of(6, [(0, 1), (1, 2), (0, 2), (3, 4), (4, 5), (3, 5), (0, 3), (1, 4), (2, 5)])
        met = {"row": 0, "ring": 0}
        for web in (prism, full_web(5), web_of(6, [(0, 5), (1, 5), (1, 4), (2, 4), (2, 3), (0, 3)])):
            for pairs in every_choice(web):
                for length in range(2, web.size() + 1):
                    for points in itertools.permutations(range(web.size()), length):
                        if row_by_words(web, pairs, list(points)):
                            met["row"] += 1
                            self.exchange(web, pairs, list(points), False)
                        if ring_by_words(web, pairs, list(points)):
                            met["ring"] += 1
                            self.exchange(web, pairs, list(points), True)
        self.assertGreater(met["row"], 1000)
        self.assertGreater(met["ring"], 100)

    def test_rows_and_rings_of_24_points(self):
        web = full_web(24)
        points = [(5 * at) % 24 for at in range(24)]
        near = [tuple(sorted((points[at], points[(at + 1) % 24]))) for at in range(24)]
        even = sorted(near[::2])
        odd = sorted(near[1::2])
        self.assertEqual(self.exchange(web, even, points, True), odd)
        self.assertEqual(self.exchange(web, odd, points, True), even)
        self.assertEqual(self.exchange(web, even, points, False), sorted(near[1:-1:2]))
        self.assertEqual(self.exchange(web, sorted(near[1:-1:2]), points, False), even)


class BetweenTest(RowsCase):
    def hold(self, one, other):
        """Hold what lies between two choices against the words; tell the kinds and lengths of it."""
        ties = sorted(set(one) | set(other))
        web = web_of(24, ties)
        told = between(one, other)
        self.assertIs(type(told), list)
        along = []
        points = []
        for thing in told:
            self.assertIs(type(thing), tuple)
            kind, list_of_points = thing
            self.assertIs(type(list_of_points), list)
            self.assertIn(kind, ("row", "ring"))
            is_one = row_by_words if kind == "row" else ring_by_words
            self.assertTrue(is_one(web, one, list_of_points), (one, other, thing))
            along += [tuple(sorted(step)) for step in steps_of(list_of_points, kind == "ring")]
            points += list_of_points
        self.assertEqual(sorted(along), sorted(set(one) ^ set(other)), (one, other))
        self.assertEqual(len(points), len(set(points)))
        for order in (told, told[::-1]):
            pairs = list(one)
            for kind, list_of_points in order:
                pairs = (exchanged if kind == "row" else exchanged_ring)(pairs, list_of_points)
                self.assertTrue(is_choice(web, pairs))
            self.assertEqual(pairs, other)
        return sorted((kind, len(list_of_points)) for kind, list_of_points in told)

    def test_a_choice_and_itself(self):
        for pairs in every_choice(full_web(6)):
            self.assertEqual(between(pairs, list(pairs)), [])

    def test_rows_of_one_tie(self):
        pairs = [(0, 9), (1, 2), (4, 5)]
        self.assertEqual(self.hold([], pairs), [("row", 2)] * 3)
        self.assertEqual(self.hold(pairs, []), [("row", 2)] * 3)
        self.assertEqual(self.hold([(1, 2)], pairs), [("row", 2)] * 2)
        self.assertEqual(self.hold(pairs, [(0, 9), (4, 5)]), [("row", 2)])

    def test_told_by_hand(self):
        self.assertEqual(self.hold([(0, 1)], [(1, 2)]), [("row", 3)])
        self.assertEqual(self.hold([(1, 2)], [(0, 1), (2, 3)]), [("row", 4)])
        self.assertEqual(self.hold([(0, 1), (2, 3)], [(1, 2)]), [("row", 4)])
        self.assertEqual(self.hold([(0, 1), (2, 3)], [(0, 3), (1, 2)]), [("ring", 4)])
        self.assertEqual(self.hold([(0, 1), (2, 3), (4, 5)], [(0, 5), (1, 2), (3, 4)]), [("ring", 6)])
        one = [(0, 1), (2, 3), (4, 5), (6, 7), (8, 9)]
        other = [(0, 2), (1, 3), (5, 6), (8, 9), (10, 11)]
        self.assertEqual(self.hold(one, other), [("ring", 4), ("row", 2), ("row", 4)])

    def test_each_two_choices_of_six_points(self):
        every = every_choice(full_web(6))
        for one in every:
            for other in every:
                self.hold(sorted(one), sorted(other))

    def test_choices_of_24_points(self):
        even = [(at, at + 1) for at in range(0, 24, 2)]
        odd = [(at, at + 1) for at in range(1, 23, 2)]
        self.assertEqual(self.hold(even, odd), [("row", 24)])
        self.assertEqual(self.hold(odd, even), [("row", 24)])
        self.assertEqual(self.hold(even, [(0, 23)] + odd), [("ring", 24)])
        self.assertEqual(self.hold(even, [(at, at + 2) for at in range(24) if at % 4 < 2]), [("ring", 4)] * 6)
        chance = random.Random(11)
        web = full_web(24)
        for times in range(200):
            one = sorted(chance.sample(chance_choice(chance, web), chance.randrange(13)))
            other = sorted(chance.sample(chance_choice(chance, web), chance.randrange(13)))
            self.hold(one, other)


class NamesTest(unittest.TestCase):
    def test_names_of_arguments(self):
        wanted = {"turns": ["web", "pairs", "row"], "turns_ring": ["web", "pairs", "ring"],
                  "exchanged": ["pairs", "row"], "exchanged_ring": ["pairs", "ring"], "between": ["one", "other"]}
        for name, arguments in wanted.items():
            self.assertEqual(list(inspect.signature(getattr(rows, name)).parameters), arguments)


class BelongingTest(unittest.TestCase):
    def setUp(self):
        self.web = full_web(8)
        self.pairs = [(1, 2), (3, 4)]
        self.row = [5, 4, 3, 0]
        self.ring = [4, 3, 2, 1]

    def told(self):
        """All questions once, told as copies; no list told is one that came in, or told before."""
        lists = [exchanged(self.pairs, self.row), exchanged_ring(self.pairs, self.ring),
                 between(self.pairs, [(1, 3), (2, 4), (6, 7)])]
        answers = [turns(self.web, self.pairs, self.row), turns_ring(self.web, self.pairs, self.ring)]
        copies = [list(lists[0]), list(lists[1]), [(kind, list(points)) for kind, points in lists[2]]]
        for told in lists:
            self.assertIsNot(told, self.pairs)
            told.reverse()
        for kind, points in lists[2]:
            points.clear()
        for told in lists:
            told.clear()
        return answers + copies

    def test_what_is_handed_in_stays_as_it_was(self):
        web = seen(self.web)
        self.told()
        self.assertEqual(self.pairs, [(1, 2), (3, 4)])
        self.assertEqual(self.row, [5, 4, 3, 0])
        self.assertEqual(self.ring, [4, 3, 2, 1])
        self.assertEqual(seen(self.web), web)
        other = [(1, 3), (2, 4), (6, 7)]
        between(self.pairs, other)
        self.assertEqual(other, [(1, 3), (2, 4), (6, 7)])

    def test_what_is_told_may_be_changed_afterwards(self):
        first = self.told()
        self.assertEqual(first[:4], [True, True, [(0, 3), (1, 2), (4, 5)], [(1, 4), (2, 3)]])
        self.assertEqual(self.told(), first)

    def test_what_was_handed_in_may_be_changed_afterwards(self):
        told = exchanged(self.pairs, self.row)
        other = [(1, 3), (2, 4)]
        lying = between(self.pairs, other)
        copy = [(kind, list(points)) for kind, points in lying]
        self.pairs.clear()
        self.row.clear()
        other.clear()
        self.assertEqual(told, [(0, 3), (1, 2), (4, 5)])
        self.assertEqual(lying, copy)

    def test_between_asked_again_keeps_the_words_again(self):
        for times in range(3):
            for one, other in (([(0, 1)], [(1, 2)]), ([(0, 1), (2, 3)], [(0, 2), (1, 3)])):
                first = between(one, other)
                self.assertEqual(between(one, other), first)


if __name__ == "__main__":
    unittest.main()
