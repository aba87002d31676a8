"""shares, is_even and around: [4.2], [0.2] (d), [0.3]."""

import unittest
from functools import lru_cache, reduce

from plain import (closed, conjugate, empty_yard, left_shares, plain_ladder, right_shares, some_yards, then, whole_yard,
                   yards)
from things import SIZES, only_tuples
from turnyard.errors import NoNumber, NoText, NoTurn, NotWithin, YardError
from turnyard.ladders import count_of, is_ladder, ladder
from turnyard.several import around, carried, is_even, shares, together, within


@lru_cache(maxsize=None)
def nested_pairs(size):
    """(inner ladder, its turns, outer ladder, its turns), for each two yards of which one lies within the other."""
    return [(inner, inner_turns, outer, outer_turns)
            for inner, inner_turns in some_yards(size) for outer, outer_turns in some_yards(size)
            if inner_turns <= outer_turns]


def is_even_plainly(inner_turns, outer_turns):
    return all(conjugate(turn, carrier) in inner_turns for turn in inner_turns for carrier in outer_turns)


class Shares(unittest.TestCase):
    def test_by_name(self):
        whole = whole_yard(3)
        self.assertEqual(shares(ladder(((1, 2, 0),), 3), whole), ((0, 1, 2), (0, 2, 1)))
        # First the inner turn, then the other: 0 and 1 are changed first, so the parts 0 and 1 of the turn are.
        self.assertEqual(shares(ladder(((1, 0, 2),), 3), whole), ((0, 1, 2), (0, 2, 1), (1, 2, 0)))
        self.assertEqual(shares(ladder(((0, 2, 1),), 3), whole), ((0, 1, 2), (1, 0, 2), (2, 0, 1)))
        self.assertEqual(shares(ladder(((2, 1, 0),), 3), whole), ((0, 1, 2), (0, 2, 1), (1, 0, 2)))
        self.assertEqual(shares(ladder(((2, 3, 0, 1),), 4), ladder(((1, 2, 3, 0),), 4)), ((0, 1, 2, 3), (1, 2, 3, 0)))

    def test_against_all_turns_of_both(self):
        for size in SIZES:
            for inner, inner_turns, outer, outer_turns in nested_pairs(size):
                told = shares(inner, outer)
                least = sorted(min(share) for share in right_shares(inner_turns, outer_turns))
                self.assertEqual(told, tuple(least), (inner, outer))
                self.assertTrue(only_tuples(told))

    def test_for_each_turn_of_outer_the_least(self):
        for size in (1, 2, 3, 4, 5):
            for inner, inner_turns, outer, outer_turns in nested_pairs(size):
                least = {min(then(step, turn) for step in inner_turns) for turn in outer_turns}
                self.assertEqual(shares(inner, outer), tuple(sorted(least)), (inner, outer))

    def test_each_once_and_rising(self):
        for size in SIZES:
            for inner, inner_turns, outer, outer_turns in nested_pairs(size):
                told = shares(inner, outer)
                self.assertEqual(list(told), sorted(set(told)))

    def test_as_many_as_outers_turns_by_inners(self):
        for size in SIZES:
            for inner, inner_turns, outer, outer_turns in nested_pairs(size):
                self.assertEqual(len(shares(inner, outer)) * len(inner_turns), len(outer_turns), (inner, outer))

    def test_unlike_shares_have_no_turn_in_both(self):
        for size in SIZES:
            for inner, inner_turns, outer, outer_turns in nested_pairs(size):
                met = [then(step, turn) for turn in shares(inner, outer) for step in inner_turns]
                self.assertEqual(len(met), len(set(met)))
                self.assertEqual(set(met), outer_turns)

    def test_inner_the_same_as_outer(self):
        for size in SIZES:
            for yard, turns in yards(size):
                self.assertEqual(shares(yard, yard), (tuple(range(size)),))

    def test_inner_the_yard_of_the_empty_row(self):
        for size in SIZES:
            for yard, turns in yards(size):
                self.assertEqual(shares(empty_yard(size), yard), tuple(sorted(turns)))


class IsEven(unittest.TestCase):
    def test_by_name(self):
        whole = whole_yard(4)
        four = ladder(((1, 0, 3, 2), (2, 3, 0, 1)), 4)
        eight = ladder(((1, 2, 3, 0), (2, 1, 0, 3)), 4)
        self.assertIs(is_even(four, whole), True)
        self.assertIs(is_even(four, eight), True)
        self.assertIs(is_even(eight, whole), False)
        # Even in a yard that is even in a third need not be even in that one.
        self.assertIs(is_even(ladder(((1, 0, 3, 2),), 4), four), True)
        self.assertIs(is_even(ladder(((1, 0, 3, 2),), 4), whole), False)

    def test_just_where_left_and_right_shares_are_the_same(self):
        for size in SIZES:
            answers = []
            for inner, inner_turns, outer, outer_turns in nested_pairs(size):
                same = left_shares(inner_turns, outer_turns) == right_shares(inner_turns, outer_turns)
                self.assertIs(is_even(inner, outer), same, (inner, outer))
                answers.append(same)
            self.assertIn(True, answers)
            self.assertTrue(size < 3 or False in answers)

    def test_just_where_each_turn_of_outer_carries_inner_to_itself(self):
        for size in (1, 2, 3, 4):
            for inner, inner_turns, outer, outer_turns in nested_pairs(size):
                same = all(carried(inner, turn) == inner for turn in outer_turns)
                self.assertIs(is_even(inner, outer), same, (inner, outer))

    def test_in_itself_and_of_the_empty_row(self):
        for size in SIZES:
            for yard, turns in yards(size)[::2]:
                self.assertIs(is_even(yard, yard), True)
                self.assertIs(is_even(empty_yard(size), yard), True)

    def test_half_of_the_turns_are_even(self):
        for size in SIZES:
            for inner, inner_turns, outer, outer_turns in nested_pairs(size):
                if 2 * len(inner_turns) == len(outer_turns):
                    self.assertIs(is_even(inner, outer), True)


class Around(unittest.TestCase):
    def test_by_name(self):
        whole = whole_yard(4)
        self.assertEqual(around(ladder(((1, 0, 3, 2),), 4), whole), ladder(((1, 0, 3, 2), (2, 3, 0, 1)), 4))
        self.assertEqual(around(ladder(((1, 2, 0, 3),), 4), whole), ladder(((1, 2, 0, 3), (0, 2, 3, 1)), 4))
        self.assertEqual(around(ladder(((1, 0, 2, 3),), 4), whole), whole)
        eight = ladder(((1, 2, 3, 0), (2, 1, 0, 3)), 4)
        self.assertEqual(around(ladder(((2, 1, 0, 3),), 4), eight), ladder(((2, 1, 0, 3), (0, 3, 2, 1)), 4))

    def test_against_all_turns_of_both(self):
        for size in SIZES:
            for inner, inner_turns, outer, outer_turns in nested_pairs(size):
                # Few turns that make inner, carried by each turn of outer, make what all its turns make.
                few = {turn for rung in inner for point, turn in rung}
                all_carried = {conjugate(turn, carrier) for turn in few for carrier in outer_turns}
                told = around(inner, outer)
                self.assertEqual(told, plain_ladder(closed(all_carried, size), size), (inner, outer))
                self.assertTrue(only_tuples(told))

    def test_no_lesser_yard_is_so(self):
        for size in (1, 2, 3, 4):
            for inner, inner_turns, outer, outer_turns in nested_pairs(size):
                those = [turns for told, turns in yards(size)
                         if inner_turns <= turns <= outer_turns and is_even_plainly(turns, outer_turns)]
                least = reduce(frozenset.intersection, those)
                self.assertIn(least, those)
                self.assertEqual(around(inner, outer), plain_ladder(least, size), (inner, outer))

    def test_it_is_even_and_lies_between(self):
        for size in SIZES:
            for inner, inner_turns, outer, outer_turns in nested_pairs(size):
                told = around(inner, outer)
                self.assertIs(is_ladder(told, size), True)
                self.assertIs(is_even(told, outer), True)
                self.assertIs(within(inner, told), True)
                self.assertIs(within(told, outer), True)
                self.assertEqual(told == inner, is_even(inner, outer))

    def test_in_itself_and_of_the_empty_row(self):
        for size in SIZES:
            for yard, turns in some_yards(size):
                self.assertEqual(around(yard, yard), yard)
                self.assertEqual(around(empty_yard(size), yard), empty_yard(size))


class Refused(unittest.TestCase):
    def refused(self, inner, outer):
        for asked in (shares, is_even, around):
            for error in (NotWithin, YardError, ValueError):
                with self.assertRaises(error, msg=(asked, inner, outer)):
                    asked(inner, outer)
            try:
                asked(inner, outer)
            except (NoText, NoTurn, NoNumber):
                self.fail((asked, inner, outer))
            except NotWithin:
                pass

    def test_by_name(self):
        # Outer lies within inner.
        self.refused(ladder(((1, 2, 3, 0),), 4), ladder(((2, 3, 0, 1),), 4))
        # As many turns, but other ones; and some turns in both.
        self.refused(ladder(((1, 0, 2),), 3), ladder(((0, 2, 1),), 3))
        self.refused(ladder(((1, 2, 3, 0),), 4), ladder(((1, 0, 3, 2), (2, 3, 0, 1)), 4))
        # Fewer turns, and each turn of outer would carry inner to itself.
        self.refused(ladder(((1, 0, 2, 3, 4),), 5), ladder(((0, 1, 3, 4, 2),), 5))

    def test_all_yards_that_do_not_lie_within(self):
        for size in SIZES:
            count = 0
            for inner, inner_turns in some_yards(size):
                for outer, outer_turns in some_yards(size):
                    if not inner_turns <= outer_turns:
                        self.refused(inner, outer)
                        count += 1
            self.assertGreater(count, (-1, 0, 15, 500, 500, 500)[size - 1])

    def test_all_but_the_empty_rows_yard_are_refused_for_that(self):
        for size in SIZES:
            for yard, turns in yards(size)[::3]:
                if len(turns) > 1:
                    self.refused(yard, empty_yard(size))


class Beyond(unittest.TestCase):
    def test_seven_points(self):
        three = ladder(((1, 2, 0, 3, 4, 5, 6),), 7)
        half = around(three, whole_yard(7))
        self.assertEqual(count_of(half), 2520)
        self.assertEqual(shares(half, whole_yard(7)), ((0, 1, 2, 3, 4, 5, 6), (0, 1, 2, 3, 4, 6, 5)))
        self.assertIs(is_even(half, whole_yard(7)), True)
        self.assertIs(is_even(three, half), False)
        self.assertEqual(together(half, three), half)


class AskedAgain(unittest.TestCase):
    def answers(self, inner, outer):
        return shares(inner, outer), is_even(inner, outer), around(inner, outer)

    def test_the_same_is_told_and_nothing_is_changed(self):
        for size in SIZES:
            asked = [(inner, outer) for inner, inner_turns, outer, outer_turns in nested_pairs(size)[::5]]
            before = repr(asked)
            first = [self.answers(inner, outer) for inner, outer in asked]
            again = [self.answers(inner, outer) for inner, outer in reversed(asked)]
            self.assertEqual(first, again[::-1])
            self.assertEqual(before, repr(asked))


if __name__ == "__main__":
    unittest.main()
