"""done and word_of: [0.2], [0.3], [0.5], [2.1]."""

import inspect
import unittest
from itertools import product

from plain import ROWS_OF_6, backward, done_plainly, least_word, lengths, letters, rows, then
from things import SIZES, all_turns, some_turns
from turnyard import making
from turnyard.making import done, word_of
from turnyard.turns import is_word


def words_for(row, most):
    for length in range(most + 1):
        yield from product([part for part, turn in letters(row)], repeat=length)


def turned_backward(word):
    return tuple(-1 - part for part in reversed(word))


class Interface(unittest.TestCase):
    def test_names_and_arguments(self):
        told = {"done": ["row", "size", "word"], "word_of": ["row", "size", "turn"]}
        for name, arguments in told.items():
            self.assertEqual(list(inspect.signature(getattr(making, name)).parameters), arguments, name)


class Done(unittest.TestCase):
    def test_by_name(self):
        row = ((1, 2, 0), (1, 0, 2))
        self.assertEqual(done(row, 3, ()), (0, 1, 2))
        self.assertEqual(done(row, 3, (0,)), (1, 2, 0))
        self.assertEqual(done(row, 3, (1,)), (1, 0, 2))
        self.assertEqual(done(row, 3, (-1,)), (2, 0, 1))
        self.assertEqual(done(row, 3, (-2,)), (1, 0, 2))
        self.assertEqual(done(row, 3, (0, 1)), (0, 2, 1))
        self.assertEqual(done(row, 3, (1, 0)), (2, 1, 0))
        self.assertEqual(done(row, 3, (0, 0, 1, -1)), (1, 0, 2))

    def test_the_empty_word(self):
        for size in SIZES:
            for row in rows(size):
                self.assertEqual(done(row, size, ()), tuple(range(size)))

    def test_the_empty_row(self):
        for size in SIZES:
            self.assertEqual(done((), size, ()), tuple(range(size)))

    def test_each_part_and_the_same_backward(self):
        for size in SIZES:
            for row in rows(size):
                for k, turn in enumerate(row):
                    self.assertEqual(done(row, size, (k,)), turn)
                    self.assertEqual(done(row, size, (-1 - k,)), backward(turn))
                    self.assertEqual(done(row, size, (k, -1 - k)), tuple(range(size)))
                    self.assertEqual(done(row, size, (-1 - k, k)), tuple(range(size)))

    def test_every_point_goes_through_the_word(self):
        for size in SIZES:
            for row in rows(size)[::9]:
                for word in words_for(row, 2 if len(row) > 2 else 3):
                    made = done(row, size, word)
                    self.assertIs(type(made), tuple)
                    self.assertEqual(made, done_plainly(row, size, word), (row, word))

    def test_a_word_behind_another_one(self):
        for size in SIZES:
            for row in rows(size)[::40]:
                words = list(words_for(row, 2))[::3]
                for one in words:
                    for other in words:
                        together = then(done(row, size, one), done(row, size, other))
                        self.assertEqual(done(row, size, one + other), together, (row, one, other))

    def test_a_word_and_its_turning_backward(self):
        for size in SIZES:
            for row in rows(size)[::9]:
                for word in words_for(row, 2):
                    self.assertEqual(done(row, size, turned_backward(word)), backward(done(row, size, word)))
                    self.assertEqual(done(row, size, word + turned_backward(word)), tuple(range(size)))

    def test_a_long_word(self):
        row = ((1, 2, 3, 4, 5, 0), (1, 0, 2, 3, 4, 5))
        word = (0, 1, 1, -1, 0, -2, -1, -1) * 300
        self.assertEqual(done(row, 6, word), done_plainly(row, 6, word))


class WordOf(unittest.TestCase):
    def check(self, row, size, turn):
        word = word_of(row, size, turn)
        self.assertEqual(word, least_word(row, size, turn), (row, turn))
        if word is not None:
            self.assertTrue(is_word(word, row), (row, turn))
            self.assertEqual(done_plainly(row, size, word), turn, (row, turn))
            self.assertEqual(len(word), lengths(row, size)[turn], (row, turn))

    def test_by_name(self):
        row = ((1, 2, 0), (1, 0, 2))
        self.assertEqual(word_of(row, 3, (0, 1, 2)), ())
        self.assertEqual(word_of(row, 3, (1, 2, 0)), (0,))
        self.assertEqual(word_of(row, 3, (2, 0, 1)), (-1,))
        self.assertEqual(word_of(row, 3, (1, 0, 2)), (-2,))
        self.assertEqual(word_of(row, 3, (0, 2, 1)), (-2, -1))
        self.assertEqual(word_of(row, 3, (2, 1, 0)), (-2, 0))

    def test_none_where_no_word_does_it(self):
        self.assertIsNone(word_of(((1, 2, 0),), 3, (1, 0, 2)))
        self.assertIsNone(word_of(((1, 0, 3, 2),), 4, (1, 0, 2, 3)))
        self.assertIsNone(word_of(((0, 2, 1), (0, 2, 1)), 3, (1, 2, 0)))

    def test_the_still_turn_takes_no_part(self):
        for size in SIZES:
            for row in rows(size):
                self.assertEqual(word_of(row, size, tuple(range(size))), ())

    def test_the_empty_row_does_but_the_still_turn(self):
        for size in SIZES:
            for turn in all_turns(size):
                self.assertEqual(word_of((), size, turn), () if turn == tuple(range(size)) else None, turn)

    def test_a_row_of_still_turns(self):
        for size in SIZES:
            for turn in all_turns(size):
                for length in (1, 6):
                    want = () if turn == tuple(range(size)) else None
                    self.assertEqual(word_of((tuple(range(size)),) * length, size, turn), want, turn)

    def test_parts_below_nought_go_ahead(self):
        # The turn done twice, or twice backward, is the same; so is one done once or once backward.
        self.assertEqual(word_of(((1, 2, 3, 0),), 4, (2, 3, 0, 1)), (-1, -1))
        self.assertEqual(word_of(((1, 0),), 2, (1, 0)), (-1,))

    def test_a_turn_twice_and_with_its_back(self):
        turn = (1, 2, 3, 4, 0)
        self.assertEqual(word_of((turn, turn), 5, turn), (0,))
        self.assertEqual(word_of((turn, turn), 5, backward(turn)), (-2,))
        self.assertEqual(word_of((turn, backward(turn)), 5, turn), (-2,))
        self.assertEqual(word_of((turn, backward(turn)), 5, backward(turn)), (-1,))
        self.assertEqual(word_of((turn,) * 6, 5, backward(turn)), (-6,))
        self.assertEqual(word_of((tuple(range(5)), turn), 5, turn), (1,))

    def test_against_going_through_all_words(self):
        for size in (1, 2, 3, 4):
            for row in rows(size)[::1 if size < 3 else 11 if size == 3 else 83]:
                if len(row) > 3:
                    continue
                first = {}
                for word in words_for(row, 4 if len(row) < 3 else 3):
                    first.setdefault(done_plainly(row, size, word), word)
                for turn, word in first.items():
                    self.assertEqual(word_of(row, size, turn), word, (row, turn))

    def test_every_turn_for_many_rows(self):
        for size in SIZES:
            step = (1, 1, 1, 7, 5, 40)[size - 1]
            for row in rows(size)[::step]:
                for turn in some_turns(size, (1, 1, 1, 1, 13, 97)[size - 1]):
                    self.check(row, size, turn)

    def test_each_yard_of_6_points(self):
        for row, count in ROWS_OF_6:
            for turn in sorted(lengths(row, 6))[::1 + count // 40]:
                self.check(row, 6, turn)
            for turn in some_turns(6, 50):
                self.check(row, 6, turn)

    def test_all_720_turns(self):
        row = ((1, 2, 3, 4, 5, 0), (1, 0, 2, 3, 4, 5))
        for turn in all_turns(6):
            self.check(row, 6, turn)

    def test_all_720_turns_by_a_row_of_6_turns(self):
        row = ((1, 0, 2, 3, 4, 5), (0, 2, 1, 3, 4, 5), (0, 1, 2, 3, 4, 5), (5, 0, 1, 2, 3, 4), (1, 0, 2, 3, 4, 5),
               (1, 2, 3, 4, 5, 0))
        for turn in all_turns(6):
            self.check(row, 6, turn)

    def test_rows_and_sizes_somewhat_beyond(self):
        row = tuple(tuple(range(k)) + (k + 1, k) + tuple(range(k + 2, 7)) for k in range(6)) * 2
        self.assertEqual(word_of(row, 7, (6, 5, 4, 3, 2, 1, 0)), least_word(row, 7, (6, 5, 4, 3, 2, 1, 0)))


class AskedAgain(unittest.TestCase):
    def test_the_same_is_told(self):
        for size in SIZES:
            for row in rows(size)[::30]:
                for turn in some_turns(size, 50):
                    first = (word_of(row, size, turn), done(row, size, (0, -1) if row else ()))
                    word_of((turn,), size, turn)
                    again = (word_of(row, size, turn), done(row, size, (0, -1) if row else ()))
                    self.assertEqual(first, again)


if __name__ == "__main__":
    unittest.main()
