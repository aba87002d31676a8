"""is_ladder: [0.2], [0.3], [0.6], [2.2]."""

import copy
import unittest
from functools import lru_cache
from itertools import combinations

from plain import ROWS_OF_6, plain_ladder, rows, yard_of
from things import SIZES, all_turns, nested, odd_things, replaced
from turnyard.ladders import is_ladder


@lru_cache(maxsize=None)
def some_ladders(size):
    if size == 6:
        return [plain_ladder(yard_of(row, 6), 6) for row, count in ROWS_OF_6]
    return sorted({plain_ladder(yard_of(row, size), size) for row in rows(size)})


@lru_cache(maxsize=None)
def all_ladders(size):
    """All of them, as texts, since True equals 1 where 'True' is not '1'; two turns make each yard of up to 5 points."""
    once = {}
    for turn in all_turns(size):
        # Of the turns that make the same yard by themselves one is enough.
        once.setdefault(yard_of((turn,), size), turn)
    pairs = [()] + [(turn,) for turn in once.values()] + list(combinations(once.values(), 2))
    return frozenset(repr(plain_ladder(yard_of(row, size), size)) for row in pairs)


def is_one_plainly(thing, size):
    """For a thing that has a ladder's form up to which numbers stand in it."""
    if size < 6:
        return repr(thing) in all_ladders(size)
    turns = tuple(sorted({turn for rung in thing for point, turn in rung}))
    if any(sorted(turn) != list(range(size)) for turn in turns):
        return False
    return repr(thing) == repr(plain_ladder(yard_of(turns, size), size))


def places(thing, path=()):
    """The path to each part of a thing, at every depth, and to the thing itself."""
    yield path
    if isinstance(thing, tuple):
        for k, part in enumerate(thing):
            yield from places(part, path + (k,))


def part_at(thing, path):
    for k in path:
        thing = thing[k]
    return thing


def with_part(thing, path, part):
    if not path:
        return part
    return replaced(thing, path[0], with_part(thing[path[0]], path[1:], part))


def other_forms(part):
    """Things that are no part of a ladder at a tuple's place."""
    return [list(part), (part,), [part], part + (None,), part + ("",), part + ([],), part + (True,), part + ((),),
            part[:-1] + (part[-1:],), part[:-1] + (list(part[-1:]),)]


def other_orders(part):
    told = [part[:k] + part[k + 1:] for k in range(len(part))]
    told += [part[:k + 1] + part[k:] for k in range(len(part))]
    told += [part[:k] + (part[k + 1], part[k]) + part[k + 2:] for k in range(len(part) - 1)]
    return told + [part[::-1], ()]


class IsLadder(unittest.TestCase):
    def told(self, thing, size, want, *about):
        self.assertIs(is_ladder(thing, size), want, (thing, size) + about)

    def test_ladders_of_rows(self):
        for size in SIZES:
            for yard in some_ladders(size):
                self.told(yard, size, True)

    def test_by_name(self):
        self.told((((0, (0,)),),), 1, True)
        self.told((((0, (0, 1)), (1, (1, 0))), ((1, (0, 1)),)), 2, True)
        self.told((((0, (0, 1)),), ((1, (0, 1)),)), 2, True)
        self.told((((1, (1, 0)),), ((1, (0, 1)),)), 2, False)
        self.told((((0, (0, 1)), (1, (1, 0))),), 2, False)
        self.told((((0, (0, 1, 2)), (1, (1, 2, 0))), ((1, (0, 1, 2)),), ((2, (0, 1, 2)),)), 3, False)
        self.told((((0, (0, 1, 2)), (1, (1, 0, 2)), (2, (2, 1, 0))), ((1, (0, 1, 2)), (2, (0, 2, 1))),
                   ((2, (0, 1, 2)),)), 3, False)

    def test_any_other_thing(self):
        for size in SIZES:
            for thing in odd_things() + [(), ((),), ((),) * size, (((),),) * size, ((((), ()),),) * size]:
                self.told(thing, size, False)

    def test_turns_rows_and_words(self):
        for size in SIZES:
            for row in rows(size)[::11]:
                self.told(row, size, False)
                self.told(tuple(range(size)), size, False)
                self.told(tuple((k, tuple(range(size))) for k in range(size)), size, False)

    def test_a_ladder_of_another_size(self):
        for size in SIZES:
            for other in SIZES:
                for yard in some_ladders(other)[::3]:
                    self.told(yard, size, size == other)

    def test_a_ladder_within_something(self):
        for size in SIZES:
            for yard in some_ladders(size)[::5]:
                for kinds in ([tuple], [list], [tuple, list]):
                    for depth in (1, 2, 3, 30):
                        self.told(nested(yard, depth, kinds), size, False)

    def test_a_list_for_a_tuple_and_other_forms(self):
        for size in SIZES:
            for yard in some_ladders(size)[::4]:
                for path in places(yard):
                    part = part_at(yard, path)
                    if isinstance(part, tuple):
                        for other in other_forms(part):
                            self.told(with_part(yard, path, other), size, False, path)

    def test_something_of_another_kind_at_each_place(self):
        deep = [nested(0, 30, [tuple]), nested((), 30, [list]), nested("", 29, [tuple, list])]
        for size in SIZES:
            for yard in some_ladders(size)[::4]:
                for path in places(yard):
                    for other in [None, "", "0", "still", True, False, [], [0], (None,)] + deep:
                        self.told(with_part(yard, path, other), size, False, path)

    def test_a_truth_for_0_or_1(self):
        for size in SIZES:
            for yard in some_ladders(size):
                for path in places(yard):
                    part = part_at(yard, path)
                    if part in (0, 1):
                        self.told(with_part(yard, path, bool(part)), size, False, path)

    def test_another_number_at_each_place(self):
        for size in SIZES:
            for yard in some_ladders(size)[::1 if size < 5 else 5]:
                for path in places(yard):
                    part = part_at(yard, path)
                    if isinstance(part, int):
                        for other in (-1, size, -size, 10 ** 20):
                            self.told(with_part(yard, path, other), size, False, path)
                        for other in range(size):
                            self.told(with_part(yard, path, other), size, other == part, path)

    def test_parts_left_out_twice_or_in_another_order(self):
        for size in SIZES:
            for yard in some_ladders(size)[::1 if size < 5 else 6]:
                for path in places(yard):
                    part = part_at(yard, path)
                    if isinstance(part, tuple):
                        for other in other_orders(part):
                            # A pair is no pair turned round; else what comes of it may be a ladder again.
                            thing = with_part(yard, path, other)
                            want = len(path) != 2 and is_one_plainly(thing, size)
                            self.told(thing, size, want, path)

    def test_a_pair_too_many_or_too_few(self):
        for size in SIZES:
            for yard in some_ladders(size)[::1 if size < 5 else 5]:
                for k, rung in enumerate(yard):
                    for pair in {(point, turn) for other in yard for point, turn in other}:
                        thing = replaced(yard, k, rung + (pair,))
                        self.told(thing, size, False)
                        thing = replaced(yard, k, tuple(sorted(rung + (pair,))))
                        self.told(thing, size, is_one_plainly(thing, size))
                    for place in range(len(rung)):
                        thing = replaced(yard, k, rung[:place] + rung[place + 1:])
                        self.told(thing, size, is_one_plainly(thing, size))

    def test_another_turn_in_each_pair(self):
        for size in (1, 2, 3, 4):
            for yard in some_ladders(size):
                for k, rung in enumerate(yard):
                    for place, (point, turn) in enumerate(rung):
                        for other in all_turns(size):
                            thing = replaced(yard, k, replaced(rung, place, (point, other)))
                            self.told(thing, size, is_one_plainly(thing, size))

    def test_a_turn_of_the_yard_that_is_not_the_least(self):
        seen = 0
        for size in SIZES:
            for yard in some_ladders(size)[::1 if size < 5 else 5]:
                turns = yard_of(tuple(turn for rung in yard for point, turn in rung), size)
                for k, rung in enumerate(yard):
                    for place, (point, least) in enumerate(rung):
                        for turn in sorted(turns)[::1 + len(turns) // 60]:
                            if turn[:k] == least[:k] and turn[k] == point and turn != least:
                                seen += 1
                                self.told(replaced(yard, k, replaced(rung, place, (point, turn))), size, False)
        self.assertGreater(seen, 100)

    def test_a_rung_of_another_ladder(self):
        for size in SIZES:
            yards = some_ladders(size)[::1 if size < 5 else 4]
            for one in yards:
                for other in yards:
                    for k in range(size):
                        thing = replaced(one, k, other[k])
                        self.told(thing, size, is_one_plainly(thing, size))

    def test_rungs_of_still_turns_alone(self):
        for size in SIZES:
            still = tuple(range(size))
            self.told(tuple(((k, still),) for k in range(size)), size, True)
            self.told(tuple(((k, still),) for k in range(size - 1)), size, False)
            self.told(tuple(((k, still),) for k in range(size + 1)), size, False)
            self.told(tuple(((0, still),) for k in range(size)), size, size == 1)
            self.told(((),) + tuple(((k, still),) for k in range(1, size)), size, False)

    def test_a_ladder_somewhat_beyond(self):
        yard = plain_ladder(yard_of(((1, 2, 3, 4, 5, 6, 0), (0, 6, 5, 4, 3, 2, 1)), 7), 7)
        self.told(yard, 7, True)
        self.told(yard, 6, False)
        self.told(replaced(yard, 0, yard[0][:-1]), 7, False)

    def test_nothing_is_changed_and_the_same_is_told_again(self):
        for size in SIZES:
            for yard in some_ladders(size)[::5]:
                for thing in (yard, list(yard), [list(rung) for rung in yard], ([list(rung) for rung in yard],), [[]]):
                    before = copy.deepcopy(thing)
                    first = is_ladder(thing, size)
                    self.assertIs(is_ladder(thing, size), first)
                    self.assertEqual(repr(thing), repr(before))


if __name__ == "__main__":
    unittest.main()
