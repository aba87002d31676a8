"""Within one yard: its middle, its twists, and the kinds of its turns."""

from turnyard.ladders import ladder, makers, turns_of
from turnyard.several import around, carried_turn
from turnyard.turns import back, times


def goes_with_all(turn, others):
    return all([times(turn, other) == times(other, turn) for other in others])


def middle(yard):
    steps = makers(yard)
    return ladder(tuple([turn for turn in turns_of(yard) if goes_with_all(turn, steps)]), len(yard))


def twist(one, other):
    return times(times(back(one), back(other)), times(one, other))


def twists(yard):
    steps = makers(yard)
    made = []
    for one in steps:
        made.extend([twist(one, other) for other in steps])
    # By an even yard that has the makers' twists, makers come into the same share in any order, and so do all turns:
    # the least such yard has the twists of all turns, and every yard that has those has it.
    return around(ladder(tuple(made), len(yard)), yard)


def kinds(yard):
    turns = turns_of(yard)
    told = []
    seen = {}
    # The turns rise, so kinds are met by their least ones.
    for turn in turns:
        if turn not in seen:
            kind = sorted(set([carried_turn(turn, carrier) for carrier in turns]))
            told.append(tuple(kind))
            seen.update([(one, True) for one in kind])
    return tuple(told)
