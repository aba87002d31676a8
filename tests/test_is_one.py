"""is_turn, is_row and is_word: [0.3], [0.4], [0.5], [1.1]."""

import copy
import unittest
from itertools import product

from things import SIZES, all_turns, nested, odd_things, replaced, some_turns
from turnyard.turns import is_row, is_turn, is_word


class IsOne(unittest.TestCase):
    def told(self, answer, want, *asked):
        self.assertIs(answer, want, asked)


class IsTurn(IsOne):
    def test_all_turns_of_each_size(self):
        for size in SIZES:
            for turn in all_turns(size):
                self.told(is_turn(turn, size), True, turn, size)

    def test_a_turn_is_none_of_another_size(self):
        for size in SIZES:
            for other in SIZES:
                for turn in some_turns(other):
                    self.told(is_turn(turn, size), size == other, turn, size)

    def test_every_tuple_of_small_numbers(self):
        for size in (1, 2, 3, 4):
            turns = set(all_turns(size))
            for length in range(size + 2):
                for parts in product(range(-1, size + 1), repeat=length):
                    self.told(is_turn(parts, size), parts in turns, parts, size)

    def test_a_number_missing_twice_or_out_of_bounds(self):
        for size in SIZES:
            for turn in some_turns(size):
                for place in range(size):
                    self.told(is_turn(turn[:place] + turn[place + 1:], size), False, turn, place)
                    self.told(is_turn(turn[:place] + turn[place:place + 1] + turn[place:], size), False, turn, place)
                    for number in (-size, -1, size, size + 1, 10 ** 20):
                        self.told(is_turn(replaced(turn, place, number), size), False, turn, place, number)
                    for number in range(size):
                        thing = replaced(turn, place, number)
                        self.told(is_turn(thing, size), thing == turn, thing, size)

    def test_a_truth_is_no_number(self):
        for size in SIZES:
            for turn in all_turns(size):
                self.told(is_turn(replaced(turn, turn.index(0), False), size), False, turn)
                if size > 1:
                    self.told(is_turn(replaced(turn, turn.index(1), True), size), False, turn)

    def test_parts_of_other_kinds(self):
        for size in SIZES:
            for turn in some_turns(size):
                for place in range(size):
                    for part in (None, "", str(turn[place]), [turn[place]], (turn[place],), [], (), turn):
                        self.told(is_turn(replaced(turn, place, part), size), False, turn, place, part)

    def test_a_list_or_text_is_no_turn(self):
        for size in SIZES:
            for turn in all_turns(size):
                self.told(is_turn(list(turn), size), False, turn)
                self.told(is_turn("".join(str(part) for part in turn), size), False, turn)

    def test_a_turn_within_something_is_no_turn(self):
        for size in SIZES:
            turn = all_turns(size)[-1]
            for kind in (tuple, list):
                for depth in (1, 2, 30):
                    self.told(is_turn(nested(turn, depth, [kind]), size), False, turn, kind, depth)

    def test_the_empty_tuple_is_no_turn(self):
        for size in SIZES:
            self.told(is_turn((), size), False, size)

    def test_any_other_thing(self):
        for size in SIZES:
            for thing in odd_things():
                self.told(is_turn(thing, size), False, thing, size)


class IsRow(IsOne):
    def test_rows_of_0_to_6_turns(self):
        for size in SIZES:
            turns = all_turns(size)
            for length in range(7):
                for begin in (0, len(turns) // 2):
                    row = tuple(turns[(begin + k) % len(turns)] for k in range(length))
                    self.told(is_row(row, size), True, row, size)

    def test_the_same_turn_may_stand_in_a_row_several_times(self):
        for size in SIZES:
            for turn in some_turns(size):
                self.told(is_row((turn,) * 6, size), True, turn)

    def test_more_than_6_turns_are_no_row(self):
        for size in SIZES:
            for turn in some_turns(size):
                for length in (7, 8, 12, 100):
                    self.told(is_row((turn,) * length, size), False, turn, length)

    def test_a_turn_of_another_size(self):
        for size in SIZES:
            for other in SIZES:
                row = tuple(all_turns(size)[-1:] * 3)
                for place in range(3):
                    thing = replaced(row, place, all_turns(other)[0])
                    self.told(is_row(thing, size), size == other, thing, size)

    def test_a_list_at_each_depth(self):
        for size in SIZES:
            for turn in some_turns(size):
                row = (turn, all_turns(size)[0], turn)
                self.told(is_row(list(row), size), False, row)
                self.told(is_row([list(part) for part in row], size), False, row)
                for place in range(3):
                    self.told(is_row(replaced(row, place, list(row[place])), size), False, row, place)
                    for inner in range(size):
                        turn_with_list = replaced(turn, inner, [turn[inner]])
                        self.told(is_row(replaced(row, place, turn_with_list), size), False, row, place, inner)
            self.told(is_row([], size), False, size)
            self.told(is_row(([],), size), False, size)
            self.told(is_row(((),), size), False, size)

    def test_a_truth_is_no_number(self):
        for size in SIZES:
            for turn in some_turns(size):
                falsely = replaced(turn, turn.index(0), False)
                for place in range(6):
                    self.told(is_row(replaced((turn,) * 6, place, falsely), size), False, turn, place)

    def test_one_wrong_part_at_each_place(self):
        for size in SIZES:
            turn = all_turns(size)[-1]
            for part in (0, True, None, "", "still", [], (), (size,) * size, (turn,), list(turn)):
                for length in range(1, 7):
                    for place in range(length):
                        thing = replaced((turn,) * length, place, part)
                        self.told(is_row(thing, size), False, thing, size)

    def test_a_turn_or_a_row_within_a_tuple_is_no_row(self):
        for size in SIZES:
            turn = all_turns(size)[-1]
            self.told(is_row(turn, size), False, turn)
            for depth in (2, 3, 30):
                self.told(is_row(nested(turn, depth, [tuple]), size), False, turn, depth)

    def test_any_other_thing(self):
        for size in SIZES:
            for thing in odd_things():
                self.told(is_row(thing, size), False, thing, size)


class IsWord(IsOne):
    def rows(self):
        for size in SIZES:
            for length in range(7):
                yield (all_turns(size)[-1],) * length

    def test_the_empty_word_is_one_for_every_row(self):
        for row in self.rows():
            self.told(is_word((), row), True, row)

    def test_parts_up_to_both_bounds_and_beyond(self):
        for row in self.rows():
            for part in range(-len(row) - 3, len(row) + 3):
                want = -len(row) <= part <= len(row) - 1
                self.told(is_word((part,), row), want, part, row)
                if row:
                    self.told(is_word((0, -1, part), row), want, part, row)
                    self.told(is_word((part, 0, -1), row), want, part, row)

    def test_for_the_empty_row_there_is_but_the_empty_word(self):
        for part in (-2, -1, 0, 1, True, None):
            self.told(is_word((part,), ()), False, part)
        self.told(is_word((), ()), True)

    def test_the_bounds_by_name(self):
        row = ((1, 0, 2), (0, 2, 1))
        self.told(is_word((0, 1, -1, -2), row), True)
        self.told(is_word((2,), row), False)
        self.told(is_word((-3,), row), False)

    def test_a_word_may_be_long(self):
        row = ((1, 0),)
        self.told(is_word((0, -1) * 500, row), True)
        self.told(is_word((0, -1) * 500 + (1,), row), False)

    def test_numbers_far_beyond(self):
        for row in self.rows():
            for part in (10 ** 30, -10 ** 30):
                self.told(is_word((part,), row), False, part, row)

    def test_a_truth_is_no_number(self):
        for row in self.rows():
            for truth in (True, False):
                for thing in ((truth,), (truth, 0), (0, truth), (-1, truth, -1)):
                    self.told(is_word(thing, row), False, thing, row)

    def test_a_list_is_no_word(self):
        for row in self.rows():
            for thing in ([], [0], [-1], ([],), ([0],), ((0,),), ((),), (0, [0]), (0, (0,))):
                self.told(is_word(thing, row), False, thing, row)

    def test_any_other_thing(self):
        for row in self.rows():
            for thing in odd_things():
                self.told(is_word(thing, row), False, thing, row)


class AskedAgain(IsOne):
    def test_the_same_is_told_and_nothing_is_changed(self):
        for thing in odd_things() + [[0, 1], [[0, 1], [1, 0]], ([1, 0],), ((1, 0), [0, 1]), [1, 0, 0]]:
            before = copy.deepcopy(thing)
            for size in SIZES:
                row = (all_turns(size)[-1],)
                first = (is_turn(thing, size), is_row(thing, size), is_word(thing, row))
                again = (is_turn(thing, size), is_row(thing, size), is_word(thing, row))
                self.assertEqual(first, again, thing)
            self.assertEqual(repr(thing), repr(before))


if __name__ == "__main__":
    unittest.main()
