"""Turns, rows and words: what is one, and how turns are done."""

MOST_TURNS_IN_ROW = 6


def is_whole(thing):
    # Python counts its truths among the ints; the document does not.
    return isinstance(thing, int) and not isinstance(thing, bool)


def is_turn(thing, size):
    if not isinstance(thing, tuple):
        return False
    # Asked ahead of sorting: parts of several kinds can't be sorted, and True would pass for 1.
    if not all([is_whole(part) for part in thing]):
        return False
    return sorted(thing) == list(range(size))


def is_row(thing, size):
    if not isinstance(thing, tuple) or len(thing) > MOST_TURNS_IN_ROW:
        return False
    return all([is_turn(turn, size) for turn in thing])


def is_word(thing, row):
    if not isinstance(thing, tuple):
        return False
    return all([is_whole(part) and -len(row) <= part < len(row) for part in thing])


def still(size):
    return tuple(range(size))


def times(one, other):
    return tuple([other[place] for place in one])


def back(turn):
    return tuple([turn.index(point) for point in range(len(turn))])


def order_of(turn):
    order = 1
    reached = turn
    while reached != still(len(turn)):
        reached = times(reached, turn)
        order = order + 1
    return order


def power(turn, number):
    result = still(len(turn))
    # Whole rounds end where they began, so a long or backward number is cut to what is left of it.
    for step in range(number % order_of(turn)):
        result = times(result, turn)
    return result


def ring_from(turn, first):
    ring = [first]
    place = turn[first]
    while place != first:
        ring.append(place)
        place = turn[place]
    return tuple(ring)


def rings(turn):
    begun = [ring_from(turn, point) for point in range(len(turn))]
    # Each ring was begun at all of its points; the one begun at the least stands for it.
    return tuple([ring for ring in begun if len(ring) > 1 and ring[0] == min(ring)])


def is_odd(turn):
    even_rings = [ring for ring in rings(turn) if len(ring) % 2 == 0]
    return len(even_rings) % 2 == 1
