"""What the tests hand in: all turns of each size, and things that are no turn, row or word."""

from itertools import permutations

SIZES = range(1, 7)


def all_turns(size):
    return list(permutations(range(size)))


def some_turns(size, step=7):
    """About one in `step` of the turns, the first and the last among them."""
    turns = all_turns(size)
    return turns[::step] + turns[-1:]


def nested(thing, depth, kinds):
    """The thing within `depth` tuples or lists, the kinds taken in turns."""
    for level in range(depth):
        thing = kinds[level % len(kinds)]([thing])
    return thing


def replaced(parts, place, part):
    return parts[:place] + (part,) + parts[place + 1:]


def only_tuples(thing):
    """Whether it is a whole number or a tuple of such things: no truth, no list."""
    if type(thing) is tuple:
        return all(only_tuples(part) for part in thing)
    return type(thing) is int


def odd_things():
    """Things of every kind that is told; none is a turn, a row, a word or a ladder, whatever size or row."""
    plain = [-1, 0, 1, 2, 6, 10 ** 30, -10 ** 30, True, False, None, "", "0", "still", "0 1", "()", [], [0], [[]]]
    things = list(plain)
    for thing in (0, True, None, "", "01", [], ()):
        for depth in (1, 2, 3, 5, 29, 30, 31, 40):
            things.append(nested(thing, depth, [list]))
            things.append(nested(thing, depth, [list, tuple]))
            # One and two tuples around 0 are a turn, a word and a row of size 1, so these begin deeper.
            things.append(nested(thing, depth + 1, [tuple, list]))
            things.append(nested(thing, depth + 2, [tuple]))
    things += [(None,), ("0",), ("",), (None, 0), (0, None), ("0", "1"), (0, "1"), ([],), ((), None), ([0], [1])]
    return things
