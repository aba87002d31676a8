"""orbit, orbits and kept_still: [3.1], [0.2] (c), [0.3]."""

import inspect
import unittest
from itertools import combinations, permutations, product

from plain import empty_yard, plain_ladder, some_yards, whole_yard, yards
from things import SIZES, only_tuples
from turnyard import acting
from turnyard.acting import kept_still, orbit, orbits
from turnyard.ladders import count_of, is_ladder, ladder


def points_reached(turns, point):
    return tuple(sorted({turn[point] for turn in turns}))


def those_leaving(turns, points):
    return [turn for turn in turns if all(turn[point] == point for point in points)]


class Interface(unittest.TestCase):
    def test_names_and_arguments(self):
        told = {"orbit": ["yard", "point"], "orbits": ["yard"], "kept_still": ["yard", "points"]}
        for name, arguments in told.items():
            self.assertEqual(list(inspect.signature(getattr(acting, name)).parameters), arguments, name)


class Orbit(unittest.TestCase):
    def test_by_name(self):
        yard = ladder(((3, 1, 4, 0, 2),), 5)
        self.assertEqual([orbit(yard, point) for point in range(5)], [(0, 3), (1,), (2, 4), (0, 3), (2, 4)])
        self.assertEqual(orbit(ladder(((0, 4, 1, 3, 2, 5), (0, 1, 5, 3, 4, 2)), 6), 5), (1, 2, 4, 5))
        self.assertEqual(orbit(ladder((), 1), 0), (0,))

    def test_against_all_turns(self):
        for size in SIZES:
            for yard, turns in yards(size):
                for point in range(size):
                    self.assertEqual(orbit(yard, point), points_reached(turns, point), (yard, point))

    def test_the_empty_row(self):
        for size in SIZES:
            for point in range(size):
                self.assertEqual(orbit(empty_yard(size), point), (point,))

    def test_every_point_to_every_point(self):
        for size in SIZES:
            ring = ladder((tuple(range(1, size)) + (0,),), size)
            for yard in (ring, whole_yard(size)):
                for point in range(size):
                    self.assertEqual(orbit(yard, point), tuple(range(size)))

    def test_where_no_rung_reaches_all_of_it(self):
        # A point's own rung tells only where turns take it that leave lesser points.
        yard = ladder(((1, 2, 3, 0),), 4)
        self.assertEqual(orbit(yard, 3), (0, 1, 2, 3))
        self.assertEqual(orbit(ladder(((1, 0, 3, 2),), 4), 3), (2, 3))

    def test_rising_tuples_of_whole_numbers(self):
        for size in SIZES:
            for yard, turns in yards(size)[::5]:
                for point in range(size):
                    told = orbit(yard, point)
                    self.assertTrue(only_tuples(told))
                    self.assertEqual(list(told), sorted(set(told)))
                    self.assertIn(point, told)


class Orbits(unittest.TestCase):
    def test_by_name(self):
        self.assertEqual(orbits(ladder(((3, 1, 4, 0, 2),), 5)), ((0, 3), (1,), (2, 4)))
        self.assertEqual(orbits(ladder(((0, 4, 1, 3, 2, 5), (0, 1, 5, 3, 4, 2)), 6)), ((0,), (1, 2, 4, 5), (3,)))
        self.assertEqual(orbits(ladder(((5, 4, 3, 2, 1, 0),), 6)), ((0, 5), (1, 4), (2, 3)))
        self.assertEqual(orbits(ladder((), 1)), ((0,),))

    def test_against_all_turns(self):
        for size in SIZES:
            for yard, turns in yards(size):
                told = sorted({points_reached(turns, point) for point in range(size)})
                self.assertEqual(orbits(yard), tuple(told), yard)

    def test_the_empty_row_and_all_turns(self):
        for size in SIZES:
            self.assertEqual(orbits(empty_yard(size)), tuple((point,) for point in range(size)))
            self.assertEqual(orbits(whole_yard(size)), (tuple(range(size)),))

    def test_each_point_once_by_the_least_ones(self):
        for size in SIZES:
            for yard, turns in yards(size):
                told = orbits(yard)
                self.assertTrue(only_tuples(told))
                self.assertEqual(sorted(point for points in told for point in points), list(range(size)))
                least = [min(points) for points in told]
                self.assertEqual(least, sorted(least))
                for points in told:
                    for point in points:
                        self.assertEqual(orbit(yard, point), points)


class KeptStill(unittest.TestCase):
    def check(self, yard, turns, points):
        told = kept_still(yard, points)
        self.assertEqual(told, plain_ladder(those_leaving(turns, points), len(yard)), (yard, points))
        self.assertTrue(only_tuples(told))

    def test_by_name(self):
        yard = ladder(((1, 2, 0),), 3)
        self.assertEqual(kept_still(yard, ()), yard)
        self.assertEqual(kept_still(yard, (1,)), ladder((), 3))
        whole = whole_yard(3)
        self.assertEqual(kept_still(whole, (0,)), ladder(((0, 2, 1),), 3))
        self.assertEqual(kept_still(whole, (1,)), ladder(((2, 1, 0),), 3))
        self.assertEqual(kept_still(whole, (2, 2)), ladder(((1, 0, 2),), 3))
        self.assertEqual(kept_still(whole, (0, 2)), ladder((), 3))

    def test_all_choices_of_points(self):
        for size in SIZES:
            for yard, turns in some_yards(size)[::1 if size < 5 else 2]:
                for count in range(size + 1):
                    for points in combinations(range(size), count):
                        self.check(yard, turns, points)

    def test_one_point(self):
        for size in SIZES:
            for yard, turns in yards(size)[::1 if size < 6 else 4]:
                for point in range(size):
                    self.check(yard, turns, (point,))

    def test_no_points(self):
        for size in SIZES:
            for yard, turns in yards(size):
                self.assertEqual(kept_still(yard, ()), yard)

    def test_all_points(self):
        for size in SIZES:
            for yard, turns in yards(size)[::3]:
                self.assertEqual(kept_still(yard, tuple(range(size))), empty_yard(size))

    def test_in_any_order_and_more_than_once(self):
        for size in (1, 2, 3, 4):
            for yard, turns in yards(size)[::2]:
                for points in product(range(size), repeat=3):
                    self.check(yard, turns, points)
        for yard, turns in some_yards(6)[::3]:
            told = kept_still(yard, (1, 4, 5))
            for points in permutations((1, 4, 5)):
                self.assertEqual(kept_still(yard, points), told)
                self.assertEqual(kept_still(yard, points + points), told)
                self.assertEqual(kept_still(yard, points[:1] * 6 + points), told)

    def test_by_its_count_and_the_orbits_the_yard_is_made_up(self):
        for size in SIZES:
            for yard, turns in yards(size)[::1 if size < 6 else 3]:
                for point in range(size):
                    kept = kept_still(yard, (point,))
                    self.assertEqual(count_of(kept) * len(orbit(yard, point)), len(turns), (yard, point))

    def test_it_is_a_ladder(self):
        for size in SIZES:
            for yard, turns in some_yards(size):
                for points in ((), (0,), (size - 1,), (0, size - 1), (size // 2,)):
                    self.assertIs(is_ladder(kept_still(yard, points), size), True)

    def test_the_yard_of_all_turns(self):
        for size in SIZES:
            for point in range(size):
                self.assertEqual(count_of(kept_still(whole_yard(size), (point,))) * size, count_of(whole_yard(size)))


class Beyond(unittest.TestCase):
    def test_seven_points(self):
        yard = whole_yard(7)
        self.assertEqual(orbits(yard), (tuple(range(7)),))
        self.assertEqual(count_of(kept_still(yard, (6, 3))), 120)
        self.assertEqual(orbits(kept_still(yard, (6, 3))), ((0, 1, 2, 4, 5), (3,), (6,)))


class AskedAgain(unittest.TestCase):
    def answers(self, yard):
        size = len(yard)
        return orbits(yard), [(orbit(yard, point), kept_still(yard, (point,))) for point in range(size)]

    def test_the_same_is_told_and_nothing_is_changed(self):
        for size in SIZES:
            asked = [yard for yard, turns in some_yards(size)]
            before = repr(asked)
            first = [self.answers(yard) for yard in asked]
            again = [self.answers(yard) for yard in reversed(asked)]
            self.assertEqual(first, again[::-1])
            self.assertEqual(before, repr(asked))


if __name__ == "__main__":
    unittest.main()
