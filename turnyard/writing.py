"""The text of a turn."""

from turnyard.errors import NoTurn
from turnyard.turns import is_turn, rings, still


def ring_text(ring):
    return " ".join([str(point) for point in ring])


def written(turn, size):
    if not is_turn(turn, size):
        raise NoTurn("no turn of this size")
    # It has no rings, and would else be the empty text.
    if turn == still(size):
        return "still"
    return " / ".join([ring_text(ring) for ring in rings(turn)])
