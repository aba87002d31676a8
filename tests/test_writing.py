"""written and its refusal: [0.3], [1.2]."""

import inspect
import unittest

from things import SIZES, all_turns, odd_things, replaced, some_turns
from turnyard.errors import NoNumber, NoText, NoTurn, NotWithin, YardError
from turnyard.turns import still
from turnyard.writing import written


class Interface(unittest.TestCase):
    def test_arguments(self):
        self.assertEqual(list(inspect.signature(written).parameters), ["turn", "size"])


class Written(unittest.TestCase):
    def test_the_still_turn(self):
        for size in SIZES:
            self.assertEqual(written(still(size), size), "still")

    def test_one_ring(self):
        self.assertEqual(written((1, 0), 2), "0 1")
        self.assertEqual(written((0, 2, 1), 3), "1 2")
        self.assertEqual(written((1, 2, 0), 3), "0 1 2")
        self.assertEqual(written((2, 0, 1), 3), "0 2 1")
        self.assertEqual(written((0, 3, 2, 1), 4), "1 3")
        self.assertEqual(written((4, 0, 1, 2, 3), 5), "0 4 3 2 1")
        self.assertEqual(written((1, 2, 3, 4, 5, 0), 6), "0 1 2 3 4 5")

    def test_several_rings(self):
        self.assertEqual(written((1, 0, 3, 2), 4), "0 1 / 2 3")
        self.assertEqual(written((2, 3, 0, 1), 4), "0 2 / 1 3")
        self.assertEqual(written((1, 0, 4, 2, 3), 5), "0 1 / 2 4 3")
        self.assertEqual(written((2, 5, 4, 3, 0, 1), 6), "0 2 4 / 1 5")
        self.assertEqual(written((5, 4, 3, 2, 1, 0), 6), "0 5 / 1 4 / 2 3")

    def test_every_turn_is_its_texts_turn(self):
        for size in SIZES:
            texts = set()
            for turn in all_turns(size):
                text = written(turn, size)
                self.assertIs(type(text), str)
                texts.add(text)
                if turn != still(size):
                    self.check_rings(text, turn)
            self.assertEqual(len(texts), len(all_turns(size)))

    def check_rings(self, text, turn):
        made = list(range(len(turn)))
        firsts = []
        for ring_text in text.split(" / "):
            ring = [int(point) for point in ring_text.split(" ")]
            self.assertGreaterEqual(len(ring), 2, text)
            self.assertEqual(ring[0], min(ring), text)
            firsts.append(ring[0])
            for point, place in zip(ring, ring[1:] + ring[:1]):
                made[point] = place
        self.assertEqual(firsts, sorted(firsts), text)
        self.assertEqual(tuple(made), turn, text)
        again = " / ".join(" ".join(str(int(point)) for point in part.split(" ")) for part in text.split(" / "))
        self.assertEqual(text, again)

    def test_asked_again_the_same_is_told(self):
        for size in SIZES:
            for turn in some_turns(size):
                first = written(turn, size)
                written(still(size), size)
                self.assertEqual(written(turn, size), first)


class NotWritten(unittest.TestCase):
    def refused(self, thing, size):
        for error in (NoTurn, YardError, ValueError):
            with self.assertRaises(error, msg=(thing, size)):
                written(thing, size)
        try:
            written(thing, size)
        except (NoText, NoNumber, NotWithin):
            self.fail((thing, size))
        except NoTurn:
            pass

    def test_a_turn_of_another_size(self):
        for size in SIZES:
            for other in SIZES:
                if other != size:
                    for turn in some_turns(other, 50):
                        self.refused(turn, size)

    def test_a_truth_is_no_number(self):
        for size in SIZES:
            for turn in some_turns(size):
                self.refused(replaced(turn, turn.index(0), False), size)
                if size > 1:
                    self.refused(replaced(turn, turn.index(1), True), size)

    def test_a_number_missing_twice_or_out_of_bounds(self):
        for size in SIZES:
            for turn in some_turns(size, 50):
                for place in range(size):
                    self.refused(turn[:place] + turn[place + 1:], size)
                    self.refused(replaced(turn, place, -1), size)
                    self.refused(replaced(turn, place, size), size)
                    if size > 1:
                        self.refused(replaced(turn, place, turn[place - 1]), size)

    def test_lists_and_texts(self):
        for size in SIZES:
            for turn in some_turns(size, 50):
                self.refused(list(turn), size)
                self.refused(written(turn, size), size)
                self.refused((turn,), size)

    def test_any_other_thing(self):
        for size in SIZES:
            for thing in odd_things():
                self.refused(thing, size)


if __name__ == "__main__":
    unittest.main()
