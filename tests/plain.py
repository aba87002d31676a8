"""What DOC.md says of words, ladders and yards, said again the long way, with nothing of the program in it."""

from functools import lru_cache
from itertools import product

from things import all_turns, some_turns


def then(one, other):
    return tuple(other[one[point]] for point in range(len(one)))


def backward(turn):
    places = [None] * len(turn)
    for point, place in enumerate(turn):
        places[place] = point
    return tuple(places)


def letters(row):
    """Each part that a word for the row may have, rising, with the turn that it does."""
    back_ones = [(-1 - k, backward(turn)) for k, turn in enumerate(row)]
    return sorted(back_ones) + list(enumerate(row))


def done_plainly(row, size, word):
    """Each point by itself goes through the whole word."""
    told = dict(letters(row))
    places = []
    for point in range(size):
        for part in word:
            point = told[part][point]
        places.append(point)
    return tuple(places)


@lru_cache(maxsize=None)
def lengths(row, size):
    """For each turn that a word does, how many parts a shortest one has."""
    start = tuple(range(size))
    told = {start: 0}
    edge = {start}
    while edge:
        edge = {then(turn, step) for turn in edge for part, step in letters(row)} - set(told)
        length = max(told.values()) + 1
        told.update((turn, length) for turn in edge)
    return told


def yard_of(row, size):
    return frozenset(lengths(row, size))


def least_word(row, size, turn):
    """From its first part on: the least part behind which what is left to do takes one part less."""
    told = lengths(row, size)
    if turn not in told:
        return None
    word = ()
    while told[turn]:
        for part, step in letters(row):
            left = then(backward(step), turn)
            if told[left] < told[turn]:
                break
        word += (part,)
        turn = left
    return word


def plain_ladder(yard, size):
    rungs = []
    for k in range(size):
        those = [turn for turn in yard if turn[:k] == tuple(range(k))]
        rungs.append(tuple((point, min(turn for turn in those if turn[k] == point))
                           for point in sorted({turn[k] for turn in those})))
    return tuple(rungs)


def empty_yard(size):
    """The ladder of the empty row."""
    return plain_ladder([tuple(range(size))], size)


@lru_cache(maxsize=None)
def whole_yard(size):
    """The ladder of the yard of all turns."""
    return plain_ladder(all_turns(size), size)


def numbered(yard):
    """The turns of a ladder in the order of their numbers."""
    turns = []
    # The last rung's pair changes most often.
    for pairs in product(*yard):
        turn = tuple(range(len(yard)))
        for point, step in reversed(pairs):
            turn = then(turn, step)
        turns.append(turn)
    return turns


# Each with as many turns as its yard has.
ROWS_OF_6 = (
    ((), 1),
    (((0, 1, 2, 3, 4, 5),), 1),
    (((0, 1, 2, 3, 4, 5),) * 6, 1),
    (((0, 1, 2, 3, 5, 4),), 2),
    (((1, 0, 3, 2, 5, 4),), 2),
    (((1, 2, 0, 4, 5, 3),), 3),
    (((1, 2, 3, 4, 5, 0),), 6),
    (((1, 2, 3, 4, 5, 0), (5, 0, 1, 2, 3, 4)), 6),
    (((1, 0, 2, 3, 4, 5), (0, 1, 3, 2, 4, 5), (0, 1, 2, 3, 5, 4)), 8),
    (((1, 2, 0, 3, 4, 5), (0, 1, 2, 4, 5, 3)), 9),
    (((1, 2, 3, 4, 5, 0), (5, 4, 3, 2, 1, 0)), 12),
    (((1, 2, 3, 0, 4, 5), (0, 1, 2, 3, 5, 4), (2, 1, 0, 3, 4, 5)), 16),
    (((1, 2, 0, 3, 4, 5), (1, 0, 2, 3, 4, 5), (0, 1, 2, 4, 5, 3), (0, 1, 2, 4, 3, 5)), 36),
    (((1, 0, 2, 3, 4, 5), (2, 3, 0, 1, 4, 5), (0, 1, 4, 5, 2, 3)), 48),
    (((1, 2, 3, 4, 0, 5), (5, 4, 2, 3, 1, 0)), 60),
    (((1, 2, 0, 3, 4, 5), (1, 0, 2, 3, 4, 5), (3, 4, 5, 0, 1, 2)), 72),
    (((1, 2, 3, 4, 0, 5), (5, 4, 2, 3, 1, 0), (0, 2, 4, 1, 3, 5)), 120),
    (((0, 2, 3, 4, 5, 1), (0, 2, 1, 3, 4, 5)), 120),
    (((1, 2, 0, 3, 4, 5), (0, 1, 3, 4, 5, 2), (0, 1, 3, 4, 5, 2)), 720),
    (((1, 2, 0, 3, 4, 5), (0, 2, 3, 1, 4, 5), (0, 1, 3, 4, 2, 5), (0, 1, 2, 4, 5, 3)), 360),
    (((1, 2, 3, 4, 5, 0), (1, 0, 2, 3, 4, 5)), 720),
    (((1, 0, 2, 3, 4, 5), (0, 2, 1, 3, 4, 5), (0, 1, 3, 2, 4, 5), (0, 1, 2, 4, 3, 5), (0, 1, 2, 3, 5, 4),
      (0, 1, 2, 3, 4, 5)), 720),
)


@lru_cache(maxsize=None)
def rows(size):
    """Rows of 0 to 6 turns: all short ones of the lesser sizes, some of the greater ones."""
    turns = all_turns(size)
    told = [()] + [(turn,) for turn in turns]
    if size <= 3:
        told += list(product(turns, repeat=2)) + list(product(turns, repeat=3))
    elif size == 4:
        told += list(product(turns, repeat=2))
    elif size == 5:
        told += list(product(some_turns(size, 5), some_turns(size, 7)))
    else:
        told += list(product(some_turns(size, 67), some_turns(size, 71)))
        told += [row for row, count in ROWS_OF_6]
    for length in (3, 4, 5, 6):
        for begin in range(0, len(turns), 1 + len(turns) // 5):
            told.append(tuple(turns[(begin + k * k * 7) % len(turns)] for k in range(length)))
    for turn in some_turns(size, 50):
        told += [(turn, turn), (turn, backward(turn)), (turns[0], turn), (turn, turns[0], turn)]
    return tuple(told)


@lru_cache(maxsize=None)
def yards(size):
    """Unlike yards, each a ladder and all its turns: all there are of up to 4 points, many of 5 and 6."""
    once = {yard_of(row, size): None for row in rows(size)}
    return tuple((plain_ladder(turns, size), turns) for turns in once)


@lru_cache(maxsize=None)
def some_yards(size):
    """Few enough to take each with each: all there are of up to 4 points, the greatest ones of 5 and 6 among them."""
    if size == 6:
        once = {yard_of(row, size): None for row, count in ROWS_OF_6}
        once.update((turns, None) for told, turns in yards(size)[5::40])
        return tuple((plain_ladder(turns, size), turns) for turns in once)
    if size == 5:
        rising = sorted(yards(size), key=lambda yard: len(yard[1]))
        return tuple(rising[:-4:4] + rising[-4:])
    return yards(size)


def conjugate(turn, carrier):
    return then(then(backward(carrier), turn), carrier)


def reached(steps, size):
    """What comes of these turns, done one behind the other: they come to their backs by themselves."""
    start = tuple(range(size))
    told = {start}
    edge = {start}
    while edge:
        edge = {then(turn, step) for turn in edge for step in steps} - told
        told |= edge
    return told


def closed(turns, size):
    """The least yard that has these turns. One that has come of others already adds nothing, so it is passed over."""
    told = reached([], size)
    steps = []
    for turn in sorted(turns):
        if turn not in told:
            steps.append(turn)
            told = reached(steps, size)
    return frozenset(told)


@lru_cache(maxsize=None)
def commutators(yard):
    backs = {turn: backward(turn) for turn in yard}
    return frozenset(then(then(backs[one], backs[other]), then(one, other)) for one in yard for other in yard)


@lru_cache(maxsize=None)
def right_shares(inner, outer):
    return frozenset(frozenset(then(step, turn) for step in inner) for turn in outer)


@lru_cache(maxsize=None)
def left_shares(inner, outer):
    return frozenset(frozenset(then(turn, step) for step in inner) for turn in outer)
