"""read and its refusal: [0.3], [1.2]."""

import inspect
import unittest
from itertools import permutations, product

from things import SIZES, all_turns, some_turns
from turnyard.errors import NoNumber, NoText, NoTurn, NotWithin, YardError
from turnyard.reading import read

SIGNS = "\t\n" + "".join(chr(code) for code in range(ord(" "), ord("~") + 1))


def plain_rings(turn):
    told = []
    for point in range(len(turn)):
        if turn[point] != point and all(point not in ring for ring in told):
            ring = [point]
            while turn[ring[-1]] != point:
                ring.append(turn[ring[-1]])
            told.append(ring)
    return told


def text_of(told):
    return " / ".join(" ".join(str(point) for point in ring) for ring in told)


def plain_text(turn):
    return text_of(plain_rings(turn)) or "still"


TURNS = {size: {plain_text(turn): turn for turn in all_turns(size)} for size in SIZES}


class Reading(unittest.TestCase):
    def refused(self, text, size):
        for error in (NoText, YardError, ValueError):
            with self.assertRaises(error, msg=(text, size)):
                read(text, size)
        try:
            read(text, size)
        except (NoTurn, NoNumber, NotWithin):
            self.fail((text, size))
        except NoText:
            pass

    def told(self, text, size):
        """Read to its turn if it is a writing, else refused; tells which."""
        if text in TURNS[size]:
            turn = read(text, size)
            self.assertEqual(turn, TURNS[size][text], (text, size))
            self.assertIs(type(turn), tuple)
            return True
        try:
            turn = read(text, size)
        except NoText:
            return False
        self.fail((text, size, turn))


class Interface(unittest.TestCase):
    def test_arguments(self):
        self.assertEqual(list(inspect.signature(read).parameters), ["text", "size"])


class Read(Reading):
    def test_by_name(self):
        self.assertEqual(read("still", 1), (0,))
        self.assertEqual(read("still", 6), (0, 1, 2, 3, 4, 5))
        self.assertEqual(read("0 1", 2), (1, 0))
        self.assertEqual(read("0 1", 4), (1, 0, 2, 3))
        self.assertEqual(read("0 2 1", 3), (2, 0, 1))
        self.assertEqual(read("0 1 / 2 4 3", 5), (1, 0, 4, 2, 3))
        self.assertEqual(read("0 5 / 1 4 / 2 3", 6), (5, 4, 3, 2, 1, 0))

    def test_every_turns_writing(self):
        for size in SIZES:
            self.assertEqual(len(TURNS[size]), len(all_turns(size)))
            for text, turn in TURNS[size].items():
                self.assertEqual(read(text, size), turn, text)
                self.assertEqual({type(part) for part in read(text, size)}, {int}, text)

    def test_sizes_somewhat_beyond(self):
        self.assertEqual(read("0 6", 7), (6, 1, 2, 3, 4, 5, 0))
        self.assertEqual(read("9 10", 11), (0, 1, 2, 3, 4, 5, 6, 7, 8, 10, 9))

    def test_asked_again_the_same_is_told(self):
        for size in SIZES:
            for turn in some_turns(size):
                first = read(plain_text(turn), size)
                read("still", size)
                self.assertEqual(read(plain_text(turn), size), first)


class NotRead(Reading):
    def test_by_name(self):
        wrong = (
            "", " ", "  ", "\n", "\t", "/", " / ", " /", "/ ", "//", "-", "0", "1", "5", "6",
            " 0 1", "0 1 ", "0  1", "0\t1", "0\n1", "0 1\n", "\n0 1", "\t0 1", "0 1\t", "01", "0,1", "0-1", "(0 1)",
            "00 1", "0 01", "00 01", "0 00", "+0 1", "0 +1", "-0 1", "0 -1", "0 1.", "0 1.0", "0 1_", "0 1 6", "0 6",
            "0 10", "0 99999999999999999999", "6 7", "0 0", "0 1 0", "0 1 1", "0 1 2 1", "0 0 1", "1 0", "1 2 0",
            "2 0 1", "2 3 / 0 1", "0 1 / 3 2", "1 0 / 2 3", "0 1 / 0 1", "0 1 / 1 2", "0 1 / 0 2", "0 1 / 1 0",
            "0 1 / 2", "0 / 1 2", "0 / 1", "0 1 / 2 / 3 4", "0 1 / ", " / 0 1", "0 1 /", "/ 0 1", "0 1 / / 2 3",
            "0 1 /  2 3", "0 1  / 2 3", "0 1 /2 3", "0 1/ 2 3", "0 1/2 3", "0 1 // 2 3", "0 1 \\ 2 3", "0 1 | 2 3",
            "0 1 / 2 3 / ", "0 1 / 2 3 / 4", "0 1\t/ 2 3", "0 1 /\t2 3", "0 1\n/ 2 3", "0 1 /\n2 3", "0 1 2 3 /",
            "Still", "STILL", "stil", "stilll", "still ", " still", "still\n", "\nstill", "still\t", "\tstill",
            "still still", "still / 0 1", "0 1 / still", "still 0", "0 still", "still / still", "sti ll", "none", "a b",
            "(0, 1)", "0 1 / 2 3 \n", "~", "0 ~", "0 1 2 3 4 5 6", "0 1 2 3 4 5 0",
        )
        for text in wrong:
            self.refused(text, 6)
            for size in SIZES:
                self.assertFalse(self.told(text, size), (text, size))

    def test_every_sign_put_in_left_out_or_changed(self):
        for size in SIZES:
            texts = [plain_text(turn) for turn in some_turns(size, 1 if size < 4 else 17 if size < 6 else 60)]
            for text in texts:
                for place in range(len(text) + 1):
                    self.told(text[:place] + text[place + 1:], size)
                    for sign in SIGNS:
                        self.told(text[:place] + sign + text[place:], size)
                        self.told(text[:place] + sign + text[place + 1:], size)

    def test_a_part_left_out_twice_or_with_its_neighbour_changed(self):
        for size in SIZES:
            for text in TURNS[size]:
                parts = text.split(" ")
                for place in range(len(parts)):
                    self.told(" ".join(parts[:place] + parts[place + 1:]), size)
                    self.told(" ".join(parts[:place + 1] + parts[place:]), size)
                    self.told(" ".join(parts[:place] + parts[place:place + 2][::-1] + parts[place + 2:]), size)
                    self.assertFalse(self.told(" ".join(parts[:place] + ["0" + parts[place]] + parts[place + 1:]), size))
                    self.assertFalse(self.told(" ".join(parts[:place] + [""] + parts[place:]), size))

    def test_every_short_text(self):
        for size in (1, 2, 3):
            for length in range(6):
                for signs in product(" /012\n", repeat=length):
                    self.told("".join(signs), size)

    def test_every_row_of_points_and_strokes(self):
        for size in (1, 2, 3, 4):
            read_ones = set()
            for length in range(6):
                for parts in product(["/"] + [str(point) for point in range(size + 1)], repeat=length):
                    if self.told(" ".join(parts), size):
                        read_ones.add(" ".join(parts))
            self.assertEqual(len(read_ones), len(all_turns(size)) - 1)

    def test_a_ring_that_begins_elsewhere(self):
        for size in SIZES:
            for turn in all_turns(size):
                told = plain_rings(turn)
                for place, ring in enumerate(told):
                    for begin in range(1, len(ring)):
                        turned = told[:place] + [ring[begin:] + ring[:begin]] + told[place + 1:]
                        self.assertFalse(self.told(text_of(turned), size), turn)

    def test_rings_in_another_order(self):
        for size in SIZES:
            for turn in all_turns(size):
                told = plain_rings(turn)
                for order in permutations(told):
                    if list(order) != told:
                        self.assertFalse(self.told(text_of(order), size), turn)

    def test_rings_of_one_point(self):
        for size in SIZES:
            for turn in all_turns(size):
                told = plain_rings(turn)
                for point in range(size):
                    for place in range(len(told) + 1):
                        self.assertFalse(self.told(text_of(told[:place] + [[point]] + told[place:]), size), turn)
                self.assertFalse(self.told(text_of(told + told[-1:]), size), turn)

    def test_something_behind_or_ahead(self):
        for size in SIZES:
            for text in TURNS[size]:
                for more in (" ", "\n", "\t", " / ", " /", "/", " / still", "still", ",", "  ", "\n\n"):
                    self.assertFalse(self.told(text + more, size), text)
                for more in (" ", "\n", "\t", " / ", "/ ", "/", "still / ", "still", ",", "0", "  "):
                    self.assertFalse(self.told(more + text, size), text)

    def test_the_text_of_a_turn_of_another_size(self):
        for size in SIZES:
            for other in SIZES:
                for text, turn in TURNS[other].items():
                    fits = other <= size or all(turn[point] == point for point in range(size, other))
                    self.assertEqual(self.told(text, size), fits, (text, size))


if __name__ == "__main__":
    unittest.main()
