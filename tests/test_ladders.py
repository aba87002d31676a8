"""ladder, count_of, turns_of, has, number_of and turn_at: [0.2], [0.3], [0.6], [2.2], [2.3]."""

import inspect
import unittest
from math import factorial, prod

from plain import ROWS_OF_6, numbered, plain_ladder, rows, yard_of
from things import SIZES, all_turns, odd_things, only_tuples, some_turns
from turnyard import ladders
from turnyard.errors import NoNumber, NoText, NoTurn, NotWithin, YardError
from turnyard.ladders import count_of, has, ladder, number_of, turn_at, turns_of


def made(size, step=1):
    """Ladders, each with all turns of its yard."""
    for row in rows(size)[::step]:
        yield ladder(row, size), yard_of(row, size)


class Interface(unittest.TestCase):
    def test_names_and_arguments(self):
        told = {
            "ladder": ["row", "size"], "count_of": ["yard"], "turns_of": ["yard"], "has": ["yard", "turn"],
            "is_ladder": ["thing", "size"], "number_of": ["yard", "turn"], "turn_at": ["yard", "number"],
        }
        for name, arguments in told.items():
            self.assertEqual(list(inspect.signature(getattr(ladders, name)).parameters), arguments, name)


class Ladder(unittest.TestCase):
    def test_by_name(self):
        self.assertEqual(ladder((), 1), (((0, (0,)),),))
        self.assertEqual(ladder(((1, 0),), 2), (((0, (0, 1)), (1, (1, 0))), ((1, (0, 1)),)))
        self.assertEqual(ladder(((1, 2, 0),), 3), (
            ((0, (0, 1, 2)), (1, (1, 2, 0)), (2, (2, 0, 1))),
            ((1, (0, 1, 2)),),
            ((2, (0, 1, 2)),),
        ))
        self.assertEqual(ladder(((2, 1, 0), (1, 2, 0)), 3), (
            ((0, (0, 1, 2)), (1, (1, 0, 2)), (2, (2, 0, 1))),
            ((1, (0, 1, 2)), (2, (0, 2, 1))),
            ((2, (0, 1, 2)),),
        ))
        self.assertEqual(ladder(((1, 0, 3, 2), (0, 1, 3, 2)), 4), (
            ((0, (0, 1, 2, 3)), (1, (1, 0, 2, 3))),
            ((1, (0, 1, 2, 3)),),
            ((2, (0, 1, 2, 3)), (3, (0, 1, 3, 2))),
            ((3, (0, 1, 2, 3)),),
        ))

    def test_the_empty_row(self):
        for size in SIZES:
            still = tuple(range(size))
            self.assertEqual(ladder((), size), tuple(((k, still),) for k in range(size)))
            self.assertEqual(ladder((still,) * 6, size), ladder((), size))

    def test_against_all_turns_that_words_do(self):
        for size in SIZES:
            for row in rows(size):
                told = ladder(row, size)
                self.assertEqual(told, plain_ladder(yard_of(row, size), size), row)

    def test_it_is_made_of_tuples_and_whole_numbers(self):
        for size in SIZES:
            for row in rows(size)[::7]:
                told = ladder(row, size)
                self.assertTrue(only_tuples(told))
                self.assertEqual(len(told), size)
                for k, rung in enumerate(told):
                    points = [point for point, turn in rung]
                    self.assertEqual(points, sorted(set(points)))
                    self.assertIn(k, points)
                    for point, turn in rung:
                        self.assertEqual(turn[k], point)
                        self.assertEqual(turn[:k], tuple(range(k)))

    def test_the_same_ladder_just_for_the_same_yard(self):
        for size in SIZES:
            ladder_of = {}
            for told, yard in made(size):
                self.assertEqual(ladder_of.setdefault(yard, told), told)
            self.assertEqual(len(set(ladder_of.values())), len(ladder_of))
        self.assertGreater(len(ladder_of), 100)

    def test_every_yard_of_up_to_4_points(self):
        # There are 1, 2, 6 and 30 of them; two turns are enough to make each.
        for size, count in ((1, 1), (2, 2), (3, 6), (4, 30)):
            self.assertEqual(len({told for told, yard in made(size)}), count)

    def test_all_yards_turns_make_it_again(self):
        for size in (1, 2, 3, 4, 5):
            for told, yard in made(size, 29):
                self.assertEqual(ladder(tuple(sorted(yard)), size), told)
                self.assertEqual(ladder(tuple(sorted(yard, reverse=True)), size), told)

    def test_the_rows_order_does_not_matter(self):
        for size in SIZES:
            for row in rows(size)[::17]:
                for other in (row[::-1], row + row, row + (tuple(range(size)),)):
                    self.assertEqual(ladder(other, size), ladder(row, size), row)

    def test_sizes_somewhat_beyond(self):
        for size in (7, 8):
            ring = tuple(range(1, size)) + (0,)
            self.assertEqual(count_of(ladder((ring,), size)), size)
            told = ladder((ring, (1, 0) + tuple(range(2, size))), size)
            self.assertEqual(count_of(told), factorial(size))
            self.assertEqual(told[0][-1], (size - 1, (size - 1,) + tuple(range(size - 1))))


class CountOf(unittest.TestCase):
    def test_rows_of_6_points_by_name(self):
        for row, count in ROWS_OF_6:
            self.assertEqual(count_of(ladder(row, 6)), count, row)

    def test_against_all_turns_that_words_do(self):
        for size in SIZES:
            for told, yard in made(size):
                self.assertIs(type(count_of(told)), int)
                self.assertEqual(count_of(told), len(yard), told)
                self.assertEqual(count_of(told), prod(len(rung) for rung in told), told)


class TurnsOf(unittest.TestCase):
    def test_by_name(self):
        self.assertEqual(turns_of(ladder((), 2)), ((0, 1),))
        self.assertEqual(turns_of(ladder(((1, 2, 0),), 3)), ((0, 1, 2), (1, 2, 0), (2, 0, 1)))
        self.assertEqual(turns_of(ladder(((1, 0, 3, 2), (0, 1, 3, 2)), 4)),
                         ((0, 1, 2, 3), (0, 1, 3, 2), (1, 0, 2, 3), (1, 0, 3, 2)))

    def test_against_all_turns_that_words_do(self):
        for size in SIZES:
            for told, yard in made(size):
                self.assertEqual(turns_of(told), tuple(sorted(yard)), told)

    def test_tuples_of_whole_numbers(self):
        for size in SIZES:
            for told, yard in made(size, 11):
                self.assertTrue(only_tuples(turns_of(told)))


class Has(unittest.TestCase):
    def test_by_name(self):
        yard = ladder(((1, 2, 0),), 3)
        self.assertIs(has(yard, (0, 1, 2)), True)
        self.assertIs(has(yard, (2, 0, 1)), True)
        self.assertIs(has(yard, (1, 0, 2)), False)
        self.assertIs(has(yard, (0, 2, 1)), False)

    def test_every_turn(self):
        for size in SIZES:
            for told, yard in made(size, (1, 1, 1, 3, 7, 11)[size - 1]):
                for turn in all_turns(size):
                    self.assertIs(has(told, turn), turn in yard, (told, turn))


class Numbers(unittest.TestCase):
    def test_by_name(self):
        yard = ladder(((1, 0, 2), (0, 2, 1)), 3)
        # Rung 0: (0, 1, 2), (1, 0, 2), (2, 0, 1); rung 1: (0, 1, 2), (0, 2, 1), done first.
        turns = [(0, 1, 2), (0, 2, 1), (1, 0, 2), (1, 2, 0), (2, 0, 1), (2, 1, 0)]
        self.assertEqual([turn_at(yard, number) for number in range(6)], turns)
        self.assertEqual([number_of(yard, turn) for turn in turns], [0, 1, 2, 3, 4, 5])

    def test_numbers_need_not_rise_with_turns(self):
        row = ((2, 3, 1, 0),)
        yard = ladder(row + ((0, 1, 3, 2),), 4)
        told = [turn_at(yard, number) for number in range(8)]
        self.assertEqual(told, numbered(yard))
        many = [numbered(told) for told, turns in made(4)]
        self.assertTrue(any(turns != sorted(turns) for turns in many))

    def test_each_number_leads_to_its_turn_and_back(self):
        for size in SIZES:
            for told, yard in made(size, (1, 1, 1, 3, 5, 7)[size - 1]):
                turns = numbered(told)
                self.assertEqual(sorted(turns), sorted(yard))
                for number, turn in enumerate(turns):
                    self.assertEqual(turn_at(told, number), turn, (told, number))
                    self.assertEqual(number_of(told, turn), number, (told, turn))
                    self.assertIs(type(number_of(told, turn)), int)
                self.assertTrue(only_tuples(turn_at(told, len(turns) - 1)))

    def test_none_for_a_turn_that_the_yard_has_not(self):
        for size in SIZES:
            for told, yard in made(size, (1, 1, 1, 3, 7, 11)[size - 1]):
                for turn in all_turns(size):
                    if turn not in yard:
                        self.assertIsNone(number_of(told, turn), (told, turn))

    def test_the_still_turn_is_number_0(self):
        for size in SIZES:
            for told, yard in made(size, 5):
                self.assertEqual(number_of(told, tuple(range(size))), 0)
                self.assertEqual(turn_at(told, 0), tuple(range(size)))


class NoTurnAt(unittest.TestCase):
    def refused(self, yard, number):
        for error in (NoNumber, YardError, ValueError):
            with self.assertRaises(error, msg=(yard, number)):
                turn_at(yard, number)
        try:
            turn_at(yard, number)
        except (NoText, NoTurn, NotWithin):
            self.fail((yard, number))
        except NoNumber:
            pass

    def test_out_of_bounds(self):
        for size in SIZES:
            for told, yard in made(size, (1, 1, 1, 3, 5, 7)[size - 1]):
                count = len(yard)
                for number in (-1, -2, -count, -count - 1, count, count + 1, 2 * count, 720 * count, 10 ** 30, -10 ** 30):
                    self.refused(told, number)

    def test_truths(self):
        for size in SIZES:
            for told, yard in made(size, 13):
                self.refused(told, True)
                self.refused(told, False)

    def test_any_other_thing(self):
        others = [thing for thing in odd_things() if type(thing) is not int]
        others += [(), (0,), (0, 1), ((0, 1),), "0", "1", "still", [0]]
        for size in SIZES:
            for row in ((), (all_turns(size)[-1],), tuple(all_turns(size)[-3:])):
                for thing in others:
                    self.refused(ladder(row, size), thing)


class AskedAgain(unittest.TestCase):
    def test_the_same_is_told(self):
        for size in SIZES:
            yards = [told for told, turns in made(size, 23)]
            first = [self.all_answers(yard, size) for yard in yards]
            again = [self.all_answers(yard, size) for yard in reversed(yards)]
            self.assertEqual(first, again[::-1])

    def all_answers(self, yard, size):
        turn = some_turns(size, 5)[-2]
        row = tuple(step for rung in yard for point, step in rung)
        return (ladder(row, size), count_of(yard), turns_of(yard), has(yard, turn), number_of(yard, turn),
                turn_at(yard, count_of(yard) - 1))


if __name__ == "__main__":
    unittest.main()
