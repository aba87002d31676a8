"""The turn of a text."""

from turnyard.errors import NoText
from turnyard.turns import is_turn, still
from turnyard.writing import written


def ring_points(ring_text, size):
    # Looked up rather than made a number of: int() would also take blanks and noughts ahead.
    names = [str(point) for point in range(size)]
    points = []
    for name in ring_text.split(" "):
        if name not in names:
            raise NoText("no point of this size")
        points.append(names.index(name))
    return points


def turn_of_rings(text, size):
    places = list(still(size))
    for ring_text in text.split(" / "):
        ring = ring_points(ring_text, size)
        for point, place in zip(ring, ring[1:] + ring[:1]):
            places[point] = place
    return tuple(places)


def read(text, size):
    if text == "still":
        return still(size)
    turn = turn_of_rings(text, size)
    # Points that stand twice, rings of one point and rings in another order are seen by writing it again.
    if not is_turn(turn, size) or written(turn, size) != text:
        raise NoText("no writing of a turn of this size")
    return turn
