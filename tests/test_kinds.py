"""middle, twists and kinds: [4.3], [0.2] (c), [0.3]."""

import inspect
import unittest
from functools import reduce

from plain import (closed, commutators, conjugate, empty_yard, plain_ladder, right_shares, some_yards, then, whole_yard,
                   yards)
from things import SIZES, only_tuples
from turnyard import kinds as kinds_file
from turnyard.kinds import kinds, middle, twists
from turnyard.ladders import count_of, is_ladder, ladder, turns_of
from turnyard.several import is_even, within


def in_any_order(turns):
    return all(then(one, other) == then(other, one) for one in turns for other in turns)


def middle_turns(turns):
    return [one for one in turns if all(then(one, other) == then(other, one) for other in turns)]


class Interface(unittest.TestCase):
    def test_names_and_arguments(self):
        for name in ("middle", "twists", "kinds"):
            self.assertEqual(list(inspect.signature(getattr(kinds_file, name)).parameters), ["yard"], name)


class Middle(unittest.TestCase):
    def test_by_name(self):
        eight = ladder(((1, 2, 3, 0), (2, 1, 0, 3)), 4)
        self.assertEqual(middle(eight), ladder(((2, 3, 0, 1),), 4))
        self.assertEqual(middle(whole_yard(2)), whole_yard(2))
        self.assertEqual(middle(whole_yard(3)), empty_yard(3))
        twelve = ladder(((1, 2, 3, 4, 5, 0), (5, 4, 3, 2, 1, 0)), 6)
        self.assertEqual(middle(twelve), ladder(((3, 4, 5, 0, 1, 2),), 6))

    def test_against_all_turns(self):
        for size in SIZES:
            for yard, turns in yards(size)[::1 if size < 6 else 5] + some_yards(size):
                told = middle(yard)
                self.assertEqual(told, plain_ladder(middle_turns(turns), size), yard)
                self.assertTrue(only_tuples(told))

    def test_all_turns_in_any_order(self):
        for size in SIZES:
            count = 0
            for yard, turns in yards(size):
                if len(turns) < 20 and in_any_order(turns):
                    self.assertEqual(middle(yard), yard)
                    count += 1
            self.assertGreater(count, (0, 1, 4, 15, 50, 100)[size - 1])

    def test_none_but_the_still_turn(self):
        for size in (1, 3, 4, 5, 6):
            self.assertEqual(middle(whole_yard(size)), empty_yard(size))

    def test_it_is_a_ladder_and_even(self):
        for size in SIZES:
            for yard, turns in some_yards(size):
                self.assertIs(is_ladder(middle(yard), size), True)
                self.assertIs(is_even(middle(yard), yard), True)


class Twists(unittest.TestCase):
    def test_by_name(self):
        self.assertEqual(twists(whole_yard(2)), empty_yard(2))
        self.assertEqual(twists(whole_yard(3)), ladder(((1, 2, 0),), 3))
        self.assertEqual(twists(whole_yard(4)), ladder(((1, 2, 0, 3), (0, 2, 3, 1)), 4))
        self.assertEqual(twists(twists(whole_yard(4))), ladder(((1, 0, 3, 2), (2, 3, 0, 1)), 4))
        self.assertEqual(twists(ladder(((1, 2, 3, 0), (2, 1, 0, 3)), 4)), ladder(((2, 3, 0, 1),), 4))
        half = twists(whole_yard(5))
        self.assertEqual(count_of(half), 60)
        self.assertEqual(twists(half), half)

    def test_against_all_turns(self):
        for size in SIZES:
            for yard, turns in yards(size)[::1 if size < 6 else 5] + some_yards(size):
                told = twists(yard)
                self.assertEqual(told, plain_ladder(closed(commutators(turns), size), size), yard)
                self.assertTrue(only_tuples(told))

    def test_it_is_in_each_yard_that_has_them(self):
        for size in (1, 2, 3, 4):
            for yard, turns in yards(size):
                those = [other for told, other in yards(size) if commutators(turns) <= other]
                self.assertEqual(twists(yard), plain_ladder(reduce(frozenset.intersection, those), size), yard)

    def test_all_turns_in_any_order(self):
        for size in SIZES:
            for yard, turns in yards(size):
                if len(turns) < 20:
                    self.assertEqual(twists(yard) == empty_yard(size), in_any_order(turns), yard)

    def test_it_is_a_ladder_and_even(self):
        for size in SIZES:
            for yard, turns in some_yards(size):
                self.assertIs(is_ladder(twists(yard), size), True)
                self.assertIs(within(twists(yard), yard), True)
                self.assertIs(is_even(twists(yard), yard), True)

    def test_shares_by_it_are_the_same_from_both_sides_of_any_two_turns(self):
        for size in SIZES:
            for yard, turns in some_yards(size)[::1 if size < 6 else 2]:
                share_of = {}
                for share in right_shares(frozenset(turns_of(twists(yard))), turns):
                    share_of.update((turn, share) for turn in share)
                for one in sorted(turns)[::1 + len(turns) // 40]:
                    for other in turns:
                        self.assertEqual(share_of[then(one, other)], share_of[then(other, one)], (yard, one, other))


class Kinds(unittest.TestCase):
    def test_by_name(self):
        self.assertEqual(kinds(empty_yard(1)), (((0,),),))
        self.assertEqual(kinds(whole_yard(3)), (
            ((0, 1, 2),),
            ((0, 2, 1), (1, 0, 2), (2, 1, 0)),
            ((1, 2, 0), (2, 0, 1)),
        ))
        # Carried by turns of the yard alone: those of all turns would make one kind of the two ring turns.
        self.assertEqual(kinds(ladder(((1, 2, 0),), 3)), (((0, 1, 2),), ((1, 2, 0),), ((2, 0, 1),)))
        self.assertEqual(kinds(ladder(((1, 2, 3, 0), (2, 1, 0, 3)), 4)), (
            ((0, 1, 2, 3),),
            ((0, 3, 2, 1), (2, 1, 0, 3)),
            ((1, 0, 3, 2), (3, 2, 1, 0)),
            ((1, 2, 3, 0), (3, 0, 1, 2)),
            ((2, 3, 0, 1),),
        ))

    def test_how_many(self):
        # Of all turns, those whose rings are of the same lengths are a kind.
        self.assertEqual([len(kinds(whole_yard(size))) for size in SIZES], [1, 2, 3, 5, 7, 11])
        self.assertEqual([len(kinds(twists(whole_yard(size)))) for size in (3, 4, 5, 6)], [3, 4, 5, 7])

    def test_against_all_turns(self):
        for size in SIZES:
            for yard, turns in yards(size)[::1 if size < 6 else 5] + some_yards(size):
                told = {tuple(sorted({conjugate(turn, carrier) for carrier in turns})) for turn in turns}
                self.assertEqual(kinds(yard), tuple(sorted(told)), yard)

    def test_each_turn_once_rising_by_their_least_ones(self):
        for size in SIZES:
            for yard, turns in yards(size):
                told = kinds(yard)
                self.assertTrue(only_tuples(told))
                self.assertEqual(sorted(turn for kind in told for turn in kind), sorted(turns))
                for kind in told:
                    self.assertEqual(list(kind), sorted(kind))
                least = [kind[0] for kind in told]
                self.assertEqual(least, sorted(least))

    def test_the_middles_turns_are_a_kind_by_themselves(self):
        for size in SIZES:
            for yard, turns in yards(size)[::1 if size < 6 else 3] + some_yards(size):
                alone = tuple(kind[0] for kind in kinds(yard) if len(kind) == 1)
                self.assertEqual(turns_of(middle(yard)), alone, yard)

    def test_all_turns_in_any_order(self):
        for size in SIZES:
            for yard, turns in yards(size):
                if len(turns) < 20 and in_any_order(turns):
                    self.assertEqual(kinds(yard), tuple((turn,) for turn in sorted(turns)))


class Beyond(unittest.TestCase):
    def test_seven_points(self):
        whole = whole_yard(7)
        self.assertEqual(middle(whole), empty_yard(7))
        self.assertEqual(count_of(twists(whole)), 2520)
        self.assertEqual(len(kinds(whole)), 15)


class AskedAgain(unittest.TestCase):
    def answers(self, yard):
        return middle(yard), twists(yard), kinds(yard)

    def test_the_same_is_told_and_nothing_is_changed(self):
        for size in SIZES:
            asked = [yard for yard, turns in some_yards(size)]
            before = repr(asked)
            first = [self.answers(yard) for yard in asked]
            again = [self.answers(yard) for yard in reversed(asked)]
            self.assertEqual(first, again[::-1])
            self.assertEqual(before, repr(asked))


if __name__ == "__main__":
    unittest.main()
