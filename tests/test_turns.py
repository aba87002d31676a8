"""How turns are done: [0.3], [0.4], [1.1], [1.2]."""

import inspect
import unittest

from things import SIZES, all_turns, some_turns
from turnyard import turns
from turnyard.turns import back, is_odd, order_of, power, rings, still, times


def done_often(turn, count):
    """Where each point goes when the turn is done count times, point by point."""
    places = []
    for point in range(len(turn)):
        for step in range(count):
            point = turn[point]
        places.append(point)
    return tuple(places)


class Interface(unittest.TestCase):
    def test_names_and_arguments(self):
        told = {
            "is_turn": ["thing", "size"], "is_row": ["thing", "size"], "is_word": ["thing", "row"],
            "still": ["size"], "times": ["one", "other"], "back": ["turn"], "power": ["turn", "number"],
            "order_of": ["turn"], "rings": ["turn"], "is_odd": ["turn"],
        }
        for name, arguments in told.items():
            self.assertEqual(list(inspect.signature(getattr(turns, name)).parameters), arguments, name)


class Still(unittest.TestCase):
    def test_each_size(self):
        self.assertEqual(still(1), (0,))
        self.assertEqual(still(2), (0, 1))
        self.assertEqual(still(3), (0, 1, 2))
        self.assertEqual(still(4), (0, 1, 2, 3))
        self.assertEqual(still(5), (0, 1, 2, 3, 4))
        self.assertEqual(still(6), (0, 1, 2, 3, 4, 5))

    def test_it_is_the_least_turn(self):
        for size in SIZES:
            self.assertEqual(still(size), min(all_turns(size)))


class Times(unittest.TestCase):
    def test_one_is_done_first(self):
        self.assertEqual(times((1, 2, 0), (1, 0, 2)), (0, 2, 1))
        self.assertEqual(times((1, 0, 2), (1, 2, 0)), (2, 1, 0))
        self.assertEqual(times((1, 0, 2, 3), (0, 2, 3, 1)), (2, 0, 3, 1))
        self.assertEqual(times((0, 2, 3, 1), (1, 0, 2, 3)), (1, 2, 3, 0))
        self.assertEqual(times((1, 2, 3, 4, 5, 0), (1, 0, 2, 3, 4, 5)), (0, 2, 3, 4, 5, 1))

    def test_each_point_goes_by_one_and_then_by_other(self):
        for size in SIZES:
            for one in some_turns(size):
                for other in some_turns(size, 3):
                    made = times(one, other)
                    self.assertIs(type(made), tuple)
                    self.assertEqual(len(made), size)
                    for point in range(size):
                        self.assertEqual(made[point], other[one[point]], (one, other))

    def test_the_still_turn_on_either_side(self):
        for size in SIZES:
            for turn in all_turns(size):
                self.assertEqual(times(still(size), turn), turn)
                self.assertEqual(times(turn, still(size)), turn)


class Back(unittest.TestCase):
    def test_by_name(self):
        self.assertEqual(back((0,)), (0,))
        self.assertEqual(back((1, 0)), (1, 0))
        self.assertEqual(back((1, 2, 0)), (2, 0, 1))
        self.assertEqual(back((3, 0, 4, 1, 2, 5)), (1, 3, 4, 0, 2, 5))

    def test_each_point_comes_from_where_it_went(self):
        for size in SIZES:
            for turn in all_turns(size):
                backward = back(turn)
                self.assertIs(type(backward), tuple)
                self.assertEqual([backward[turn[point]] for point in range(size)], list(range(size)), turn)

    def test_on_both_sides_of_its_turn(self):
        for size in SIZES:
            for turn in all_turns(size):
                self.assertEqual(times(turn, back(turn)), still(size))
                self.assertEqual(times(back(turn), turn), still(size))


class Power(unittest.TestCase):
    def test_by_name(self):
        turn = (1, 2, 3, 4, 0)
        self.assertEqual(power(turn, 0), (0, 1, 2, 3, 4))
        self.assertEqual(power(turn, 1), turn)
        self.assertEqual(power(turn, 2), (2, 3, 4, 0, 1))
        self.assertEqual(power(turn, -1), (4, 0, 1, 2, 3))
        self.assertEqual(power(turn, -2), (3, 4, 0, 1, 2))
        self.assertEqual(power(turn, 999999999999), (4, 0, 1, 2, 3))
        self.assertEqual(power(turn, -999999999999), turn)

    def test_above_and_below_nought(self):
        for size in SIZES:
            for turn in all_turns(size):
                for number in range(8):
                    self.assertEqual(power(turn, number), done_often(turn, number), (turn, number))
                    self.assertEqual(power(turn, -number), done_often(back(turn), number), (turn, -number))

    def test_numbers_of_many_figures(self):
        numbers = (97, 1000, 123456, 99999999, 100000000000, 123456789012, 999999999998, 999999999999, 10 ** 15 + 1)
        for size in SIZES:
            for turn in some_turns(size):
                for number in numbers:
                    # Every turn of up to 6 points is still again behind 60 times (1 to 6 all part 60).
                    self.assertEqual(power(turn, number), done_often(turn, number % 60), (turn, number))
                    self.assertEqual(power(turn, -number), done_often(back(turn), number % 60), (turn, -number))

    def test_it_is_a_turn_also_of_the_still_turn(self):
        for size in SIZES:
            for number in (-999999999999, -1, 0, 1, 999999999999):
                self.assertEqual(power(still(size), number), still(size))
                self.assertIs(type(power(still(size), number)), tuple)


class OrderOf(unittest.TestCase):
    def test_by_name(self):
        self.assertEqual(order_of((0,)), 1)
        self.assertEqual(order_of((1, 0)), 2)
        self.assertEqual(order_of((1, 2, 0)), 3)
        self.assertEqual(order_of((1, 0, 3, 2)), 2)
        self.assertEqual(order_of((1, 2, 3, 0)), 4)
        self.assertEqual(order_of((1, 0, 3, 4, 2)), 6)
        self.assertEqual(order_of((1, 2, 3, 4, 0)), 5)
        self.assertEqual(order_of((1, 2, 3, 4, 5, 0)), 6)
        self.assertEqual(order_of((1, 0, 3, 4, 5, 2)), 4)

    def test_the_still_turn(self):
        for size in SIZES:
            self.assertEqual(order_of(still(size)), 1)

    def test_the_least_so_often(self):
        for size in SIZES:
            for turn in all_turns(size):
                order = order_of(turn)
                self.assertIs(type(order), int)
                for count in range(1, order):
                    self.assertNotEqual(done_often(turn, count), still(size), turn)
                self.assertEqual(done_often(turn, order), still(size), turn)


class Rings(unittest.TestCase):
    def test_the_still_turn_has_none(self):
        for size in SIZES:
            self.assertEqual(rings(still(size)), ())

    def test_one_ring(self):
        self.assertEqual(rings((1, 0)), ((0, 1),))
        self.assertEqual(rings((0, 2, 1)), ((1, 2),))
        self.assertEqual(rings((1, 2, 0)), ((0, 1, 2),))
        self.assertEqual(rings((2, 0, 1)), ((0, 2, 1),))
        self.assertEqual(rings((0, 1, 5, 3, 2, 4)), ((2, 5, 4),))
        self.assertEqual(rings((5, 0, 1, 2, 3, 4)), ((0, 5, 4, 3, 2, 1),))

    def test_several_rings(self):
        self.assertEqual(rings((1, 0, 3, 2)), ((0, 1), (2, 3)))
        self.assertEqual(rings((3, 2, 1, 0)), ((0, 3), (1, 2)))
        self.assertEqual(rings((5, 4, 3, 2, 1, 0)), ((0, 5), (1, 4), (2, 3)))
        self.assertEqual(rings((4, 5, 0, 3, 2, 1)), ((0, 4, 2), (1, 5)))
        self.assertEqual(rings((2, 3, 5, 4, 1, 0)), ((0, 2, 5), (1, 3, 4)))

    def test_the_form_of_every_turns_rings(self):
        for size in SIZES:
            for turn in all_turns(size):
                told = rings(turn)
                self.assertIs(type(told), tuple)
                for ring in told:
                    self.assertIs(type(ring), tuple)
                    self.assertGreaterEqual(len(ring), 2, turn)
                    self.assertEqual(ring[0], min(ring), turn)
                    self.assertEqual([turn[point] for point in ring], list(ring[1:] + ring[:1]), turn)
                firsts = [ring[0] for ring in told]
                self.assertEqual(firsts, sorted(firsts), turn)
                moved = [point for point in range(size) if turn[point] != point]
                self.assertEqual(sorted(sum(told, ())), moved, turn)


class IsOdd(unittest.TestCase):
    def test_by_name(self):
        told = {
            (0,): False,
            (0, 1, 2, 3, 4, 5): False,
            (1, 0): True,
            (1, 2, 0): False,
            (1, 2, 3, 0): True,
            (1, 2, 3, 4, 0): False,
            (1, 2, 3, 4, 5, 0): True,
            (1, 0, 3, 2): False,
            (1, 0, 3, 4, 2): True,
            (1, 2, 0, 4, 5, 3): False,
            (1, 0, 3, 4, 5, 2): False,
            (1, 0, 3, 2, 5, 4): True,
        }
        for turn, odd in told.items():
            self.assertIs(is_odd(turn), odd, turn)

    def test_as_many_points_pass_one_another(self):
        # A turn is odd just if an odd number of pairs of points change their order.
        for size in SIZES:
            for turn in all_turns(size):
                passed = sum(turn[a] > turn[b] for b in range(size) for a in range(b))
                self.assertIs(is_odd(turn), passed % 2 == 1, turn)


class AskedAgain(unittest.TestCase):
    def test_the_same_is_told(self):
        for size in SIZES:
            other = all_turns(size)[-1]
            for turn in some_turns(size):
                first = self.all_answers(turn, other, size)
                self.all_answers(other, turn, size)
                self.assertEqual(self.all_answers(turn, other, size), first)

    def all_answers(self, turn, other, size):
        return (still(size), times(turn, other), back(turn), power(turn, 100000000001), power(turn, -7),
                order_of(turn), rings(turn), is_odd(turn))


if __name__ == "__main__":
    unittest.main()
