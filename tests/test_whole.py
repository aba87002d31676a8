"""What DOC.md promises over the whole program: [0.2] and [0.3], from rows on, for every size up to 6 points."""

import importlib
import inspect
import unittest
from math import prod

from plain import ROWS_OF_6, lengths, rows, then
from things import SIZES, all_turns, only_tuples, some_turns
from turnyard.acting import kept_still, orbit, orbits
from turnyard.kinds import kinds, middle, twists
from turnyard.ladders import count_of, has, is_ladder, ladder, number_of, turn_at, turns_of
from turnyard.making import done, word_of
from turnyard.reading import read
from turnyard.several import around, carried, is_even, shared, shares, together, within
from turnyard.turns import back, is_row, is_turn, is_word, still, times
from turnyard.writing import written

INTERFACE = {
    "errors": "YardError NoTurn NoText NoNumber NotWithin",
    "turns": "is_turn is_row is_word still times back power order_of rings is_odd",
    "writing": "written",
    "reading": "read",
    "making": "done word_of",
    "ladders": "ladder count_of turns_of has is_ladder number_of turn_at",
    "acting": "orbit orbits kept_still",
    "several": "together shared within carried shares is_even around",
    "kinds": "middle twists kinds",
}


def few_rows(size):
    """Some of the rows, of 0 to 6 turns; of 6 points those that make unlike yards, small and great."""
    if size == 6:
        return [row for row, count in ROWS_OF_6 if is_row(row, 6)] + list(rows(6)[800::20])
    return rows(size)[::1 + len(rows(size)) // 40]


def row_pairs(size):
    told = few_rows(size)
    return [(one, told[(place * 7 + 3) % len(told)]) for place, one in enumerate(told)]


class Interface(unittest.TestCase):
    def test_every_name_is_defined_in_its_file(self):
        for name, names in INTERFACE.items():
            module = importlib.import_module("turnyard." + name)
            for word in names.split():
                self.assertEqual(getattr(module, word).__module__, "turnyard." + name, word)

    def test_no_argument_may_be_left_out(self):
        for name, names in INTERFACE.items():
            if name != "errors":
                for word in names.split():
                    asked = getattr(importlib.import_module("turnyard." + name), word)
                    for taken in inspect.signature(asked).parameters.values():
                        self.assertIs(taken.default, inspect.Parameter.empty, (word, taken))


class WordsAndTurns(unittest.TestCase):
    """(a)"""

    def test_the_yard_has_just_the_turns_that_words_do(self):
        for size in SIZES:
            for row in few_rows(size)[::1 if size < 6 else 3]:
                yard = ladder(row, size)
                told = lengths(row, size)
                self.assertEqual(set(turns_of(yard)), set(told), row)
                for turn in some_turns(size, 1 if size < 6 else 17):
                    word = word_of(row, size, turn)
                    self.assertIs(has(yard, turn), word is not None, (row, turn))
                    self.assertEqual(turn in told, word is not None, (row, turn))
                    if word is not None:
                        self.assertTrue(is_word(word, row))
                        self.assertEqual(done(row, size, word), turn)
                        self.assertEqual(len(word), told[turn], (row, turn))

    def test_whatever_word_does_is_of_the_yard(self):
        for size in SIZES:
            for row in few_rows(size):
                yard = ladder(row, size)
                for step in range(1, 6):
                    word = tuple((k * step * step + step) % (2 * len(row)) - len(row) for k in range(9) if row)
                    self.assertIs(has(yard, done(row, size, word)), True, (row, word))


class Ladders(unittest.TestCase):
    """(b)"""

    def test_the_same_ladder_just_for_the_same_yard(self):
        for size in SIZES:
            turns_by_ladder = {}
            for row in few_rows(size):
                turns = frozenset(lengths(row, size))
                self.assertEqual(turns_by_ladder.setdefault(ladder(row, size), turns), turns, row)
            self.assertEqual(len(set(turns_by_ladder.values())), len(turns_by_ladder))

    def test_the_product_of_the_rungs_lengths(self):
        for size in SIZES:
            for row in few_rows(size):
                yard = ladder(row, size)
                count = len(lengths(row, size))
                self.assertEqual((count_of(yard), prod(len(rung) for rung in yard)), (count, count), row)

    def test_turns_are_numbered_each_once(self):
        for size in SIZES:
            for row in few_rows(size)[::1 if size < 6 else 3]:
                yard = ladder(row, size)
                turns = [turn_at(yard, number) for number in range(count_of(yard))]
                self.assertEqual(sorted(turns), list(turns_of(yard)))
                self.assertEqual([number_of(yard, turn) for turn in turns], list(range(len(turns))))


class YardsToldByTheirTurns(unittest.TestCase):
    """(c)"""

    def test_put_together(self):
        for size in SIZES:
            for one, other in row_pairs(size):
                told = together(ladder(one, size), ladder(other, size))
                self.assertEqual(set(turns_of(told)), set(lengths(one + other, size)), (one, other))

    def test_shared(self):
        for size in SIZES:
            for one, other in row_pairs(size):
                told = shared(ladder(one, size), ladder(other, size))
                self.assertEqual(set(turns_of(told)), set(lengths(one, size)) & set(lengths(other, size)), (one, other))

    def test_kept_still(self):
        for size in SIZES:
            for row in few_rows(size):
                for points in ((), (0,), (size - 1,), (size // 2, 0)):
                    told = kept_still(ladder(row, size), points)
                    those = {turn for turn in lengths(row, size) if all(turn[point] == point for point in points)}
                    self.assertEqual(set(turns_of(told)), those, (row, points))

    def test_made_by_twists(self):
        for size in SIZES:
            for row in few_rows(size):
                turns = lengths(row, size)
                if len(turns) <= 120:
                    made = {times(times(back(one), back(other)), times(one, other)) for one in turns for other in turns}
                    told = twists(ladder(row, size))
                    self.assertEqual(told, ladder(tuple(sorted(made)), size), row)


class Parted(unittest.TestCase):
    """(d)"""

    def test_shares_of_as_many_turns(self):
        for size in SIZES:
            for one, other in row_pairs(size):
                inner, outer = ladder(one, size), ladder(one + other, size)
                told = shares(inner, outer)
                parted = [{then(step, turn) for step in lengths(one, size)} for turn in told]
                self.assertEqual({len(share) for share in parted}, {count_of(inner)})
                self.assertEqual(sum(len(share) for share in parted), count_of(outer))
                self.assertEqual(set().union(*parted), set(lengths(one + other, size)))

    def test_even_just_if_left_and_right_shares_are_the_same(self):
        for size in SIZES:
            for one, other in row_pairs(size):
                inner, outer = ladder(one, size), ladder(one + other, size)
                # Each share has its least turn among those told, so no other one need be gone through.
                same = all({then(step, turn) for step in lengths(one, size)}
                           == {then(turn, step) for step in lengths(one, size)} for turn in shares(inner, outer))
                self.assertIs(is_even(inner, outer), same, (one, other))


class WhatIsTold(unittest.TestCase):
    """[0.3]"""

    def yards_told(self, one, other, size):
        inner, outer = ladder(one, size), ladder(one + other, size)
        turn = all_turns(size)[-1]
        return [inner, outer, together(inner, ladder(other, size)), shared(inner, ladder(other, size)),
                carried(inner, turn), around(inner, outer), kept_still(outer, (0,)), middle(outer), twists(outer)]

    def others_told(self, one, other, size):
        inner, outer = ladder(one, size), ladder(one + other, size)
        turn = turn_at(outer, count_of(outer) - 1)
        return [still(size), turn, turns_of(inner), number_of(outer, turn), word_of(one + other, size, turn),
                read(written(turn, size), size), orbit(outer, 0), orbits(outer), shares(inner, outer), kinds(inner)]

    def test_ladders_of_tuples_and_whole_numbers(self):
        for size in SIZES:
            for one, other in row_pairs(size)[::3]:
                for yard in self.yards_told(one, other, size):
                    self.assertIs(is_ladder(yard, size), True, (one, other))
                    self.assertTrue(only_tuples(yard))
                for told in self.others_told(one, other, size):
                    self.assertTrue(only_tuples(told), (one, other, told))

    def test_truths_are_told_as_such(self):
        for size in SIZES:
            for one, other in row_pairs(size)[::3]:
                inner, outer = ladder(one, size), ladder(one + other, size)
                self.assertIs(within(inner, outer), True)
                self.assertIs(type(within(outer, inner)), bool)
                self.assertIs(type(is_even(inner, outer)), bool)
                self.assertIs(is_turn(turn_at(outer, 0), size), True)

    def test_asked_again_the_same_is_told(self):
        for size in SIZES:
            asked = row_pairs(size)[::5]
            before = repr(asked)
            first = [self.yards_told(*pair, size) + self.others_told(*pair, size) for pair in asked]
            again = [self.yards_told(*pair, size) + self.others_told(*pair, size) for pair in reversed(asked)]
            self.assertEqual(repr(first), repr(again[::-1]))
            self.assertEqual(repr(asked), before)


if __name__ == "__main__":
    unittest.main()
