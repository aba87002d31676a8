"""together, shared, within and carried: [4.1], [0.2] (c), [0.3]."""

import inspect
import unittest
from functools import reduce

from plain import closed, conjugate, empty_yard, plain_ladder, some_yards, whole_yard, yards
from things import SIZES, all_turns, only_tuples, some_turns
from turnyard import several
from turnyard.ladders import count_of, is_ladder, ladder
from turnyard.several import carried, shared, together, within


def pairs(size):
    """Each yard with each: (ladder, turns), (ladder, turns)."""
    return [(one, other) for one in some_yards(size) for other in some_yards(size)]


def rung_turns(yard):
    return {turn for rung in yard for point, turn in rung}


class Interface(unittest.TestCase):
    def test_names_and_arguments(self):
        told = {
            "together": ["one", "other"], "shared": ["one", "other"], "within": ["one", "other"],
            "carried": ["yard", "turn"], "shares": ["inner", "outer"], "is_even": ["inner", "outer"],
            "around": ["inner", "outer"],
        }
        for name, arguments in told.items():
            self.assertEqual(list(inspect.signature(getattr(several, name)).parameters), arguments, name)


class Together(unittest.TestCase):
    def test_by_name(self):
        one = ladder(((1, 0, 2, 3),), 4)
        other = ladder(((0, 1, 3, 2),), 4)
        self.assertEqual(together(one, other), ladder(((1, 0, 2, 3), (0, 1, 3, 2)), 4))
        self.assertEqual(count_of(together(one, other)), 4)
        # More comes of them than each turn of the one behind each turn of the other.
        self.assertEqual(together(one, ladder(((0, 2, 3, 1),), 4)), whole_yard(4))
        self.assertEqual(together(ladder(((1, 2, 0),), 3), ladder(((0, 2, 1),), 3)), whole_yard(3))

    def test_against_all_turns_of_both(self):
        for size in SIZES:
            for (one, one_turns), (other, other_turns) in pairs(size):
                # What the turns of both make is what a few that make each of them make.
                few = rung_turns(one) | rung_turns(other)
                told = together(one, other)
                self.assertEqual(told, plain_ladder(closed(few, size), size), (one, other))
                self.assertTrue(only_tuples(told))

    def test_it_is_in_each_yard_that_has_both(self):
        for size in (1, 2, 3, 4):
            for (one, one_turns), (other, other_turns) in pairs(size):
                those = [turns for told, turns in yards(size) if one_turns | other_turns <= turns]
                least = reduce(frozenset.intersection, those)
                self.assertEqual(together(one, other), plain_ladder(least, size), (one, other))

    def test_with_itself_with_the_empty_rows_and_with_all(self):
        for size in SIZES:
            for yard, turns in yards(size):
                self.assertEqual(together(yard, yard), yard)
                self.assertEqual(together(yard, empty_yard(size)), yard)
                self.assertEqual(together(empty_yard(size), yard), yard)
            for yard, turns in some_yards(size):
                self.assertEqual(together(yard, whole_yard(size)), whole_yard(size))
                self.assertEqual(together(whole_yard(size), yard), whole_yard(size))

    def test_it_is_a_ladder(self):
        for size in SIZES:
            for (one, one_turns), (other, other_turns) in pairs(size)[::7]:
                self.assertIs(is_ladder(together(one, other), size), True)


class Shared(unittest.TestCase):
    def test_by_name(self):
        one = ladder(((1, 2, 3, 0),), 4)
        other = ladder(((2, 3, 0, 1), (1, 0, 3, 2)), 4)
        self.assertEqual(shared(one, other), ladder(((2, 3, 0, 1),), 4))
        self.assertEqual(shared(ladder(((1, 0, 2),), 3), ladder(((0, 2, 1),), 3)), empty_yard(3))

    def test_against_all_turns_of_both(self):
        for size in SIZES:
            for (one, one_turns), (other, other_turns) in pairs(size):
                told = shared(one, other)
                self.assertEqual(told, plain_ladder(one_turns & other_turns, size), (one, other))
                self.assertTrue(only_tuples(told))

    def test_with_itself_with_the_empty_rows_and_with_all(self):
        for size in SIZES:
            for yard, turns in some_yards(size):
                self.assertEqual(shared(yard, yard), yard)
                self.assertEqual(shared(yard, empty_yard(size)), empty_yard(size))
                self.assertEqual(shared(empty_yard(size), yard), empty_yard(size))
                self.assertEqual(shared(yard, whole_yard(size)), yard)
                self.assertEqual(shared(whole_yard(size), yard), yard)

    def test_it_is_a_ladder(self):
        for size in SIZES:
            for (one, one_turns), (other, other_turns) in pairs(size)[::7]:
                self.assertIs(is_ladder(shared(one, other), size), True)


class Within(unittest.TestCase):
    def test_by_name(self):
        one = ladder(((2, 3, 0, 1),), 4)
        other = ladder(((1, 2, 3, 0),), 4)
        self.assertIs(within(one, other), True)
        self.assertIs(within(other, one), False)

    def test_against_all_turns_of_both(self):
        for size in SIZES:
            for (one, one_turns), (other, other_turns) in pairs(size):
                self.assertIs(within(one, other), one_turns <= other_turns, (one, other))
        for (one, one_turns) in yards(5)[::2]:
            for (other, other_turns) in yards(5)[1::2]:
                self.assertIs(within(one, other), one_turns <= other_turns, (one, other))

    def test_with_itself_with_the_empty_rows_and_with_all(self):
        for size in SIZES:
            for yard, turns in yards(size):
                self.assertIs(within(yard, yard), True)
                self.assertIs(within(empty_yard(size), yard), True)
                self.assertIs(within(yard, empty_yard(size)), len(turns) == 1)
                self.assertIs(within(yard, whole_yard(size)), True)
                self.assertIs(within(whole_yard(size), yard), yard == whole_yard(size))

    def test_as_many_turns_but_other_ones(self):
        one = ladder(((1, 0, 2, 3), (0, 1, 3, 2)), 4)
        other = ladder(((1, 0, 3, 2), (2, 3, 0, 1)), 4)
        self.assertIs(within(one, other), False)
        self.assertIs(within(other, one), False)


class Carried(unittest.TestCase):
    def check(self, yard, turns, turn):
        told = carried(yard, turn)
        self.assertEqual(told, plain_ladder([conjugate(one, turn) for one in turns], len(turn)), (yard, turn))
        self.assertTrue(only_tuples(told))

    def test_by_name(self):
        yard = ladder(((1, 0, 2),), 3)
        # 0 goes to 1, 1 to 2: where the yard changes 0 and 1, the carried one changes 1 and 2.
        self.assertEqual(carried(yard, (1, 2, 0)), ladder(((0, 2, 1),), 3))
        self.assertEqual(carried(yard, (2, 0, 1)), ladder(((2, 1, 0),), 3))
        self.assertEqual(carried(ladder(((1, 2, 0, 3),), 4), (3, 0, 2, 1)), ladder(((2, 1, 3, 0),), 4))

    def test_turn_by_turn(self):
        for size in (1, 2, 3, 4):
            for yard, turns in yards(size):
                for turn in all_turns(size):
                    self.check(yard, turns, turn)
        for size, step in ((5, 11), (6, 79)):
            for yard, turns in some_yards(size):
                for turn in some_turns(size, step):
                    self.check(yard, turns, turn)

    def test_the_still_turn(self):
        for size in SIZES:
            for yard, turns in yards(size):
                self.assertEqual(carried(yard, tuple(range(size))), yard)

    def test_a_turn_of_the_yard_itself(self):
        for size in SIZES:
            for yard, turns in some_yards(size):
                for turn in sorted(turns)[::1 + len(turns) // 12]:
                    self.assertEqual(carried(yard, turn), yard)

    def test_a_turn_that_is_not_of_the_yard(self):
        yard = ladder(((1, 2, 0, 3),), 4)
        self.assertEqual(carried(yard, (1, 0, 2, 3)), yard)
        self.assertNotEqual(carried(yard, (0, 1, 3, 2)), yard)
        self.assertEqual(carried(yard, (0, 1, 3, 2)), ladder(((1, 3, 2, 0),), 4))

    def test_it_is_a_ladder_of_as_many_turns(self):
        for size in SIZES:
            for yard, turns in some_yards(size):
                for turn in some_turns(size, 100):
                    told = carried(yard, turn)
                    self.assertIs(is_ladder(told, size), True)
                    self.assertEqual(count_of(told), len(turns))

    def test_by_one_turn_then_by_another(self):
        for size in (3, 4, 5, 6):
            one, other = some_turns(size, 5)[-2], some_turns(size, 4)[1]
            both = tuple(other[point] for point in one)
            for yard, turns in some_yards(size):
                self.assertEqual(carried(carried(yard, one), other), carried(yard, both))


class Beyond(unittest.TestCase):
    def test_seven_points(self):
        ring = ladder(((1, 2, 3, 4, 5, 6, 0),), 7)
        pair = ladder(((0, 1, 2, 3, 4, 6, 5),), 7)
        self.assertEqual(count_of(together(ring, pair)), 5040)
        self.assertEqual(shared(ring, pair), empty_yard(7))
        self.assertIs(within(pair, together(ring, pair)), True)
        self.assertEqual(carried(pair, (1, 2, 3, 4, 5, 6, 0)), ladder(((6, 1, 2, 3, 4, 5, 0),), 7))


class AskedAgain(unittest.TestCase):
    def answers(self, one, other, turn):
        return together(one, other), shared(one, other), within(one, other), carried(one, turn)

    def test_the_same_is_told_and_nothing_is_changed(self):
        for size in SIZES:
            turn = some_turns(size, 5)[-2]
            asked = [(one, other) for (one, one_turns), (other, other_turns) in pairs(size)[::11]]
            before = repr(asked)
            first = [self.answers(one, other, turn) for one, other in asked]
            again = [self.answers(one, other, turn) for one, other in reversed(asked)]
            self.assertEqual(first, again[::-1])
            self.assertEqual(before, repr(asked))


if __name__ == "__main__":
    unittest.main()
