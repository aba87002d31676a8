"""Several yards: put together, shared, compared and carried, and the shares of one in another."""

from turnyard.errors import NotWithin
from turnyard.ladders import has, ladder, makers, turns_of
from turnyard.turns import back, times


def together(one, other):
    return ladder(makers(one) + makers(other), len(one))


def shared(one, other):
    return ladder(tuple([turn for turn in turns_of(one) if has(other, turn)]), len(one))


def within(one, other):
    return all([has(other, turn) for turn in makers(one)])


def carried_turn(turn, carrier):
    return times(times(back(carrier), turn), carrier)


def carried_makers(yard, carrier):
    return tuple([carried_turn(turn, carrier) for turn in makers(yard)])


def carried(yard, turn):
    return ladder(carried_makers(yard, turn), len(yard))


def refuse_unless_within(inner, outer):
    if not within(inner, outer):
        raise NotWithin("the inner yard does not lie within the outer one")


def shares(inner, outer):
    refuse_unless_within(inner, outer)
    inner_turns = turns_of(inner)
    least_ones = []
    seen = {}
    # The turns rise, so the first one of a share to be met is its least.
    for turn in turns_of(outer):
        if turn not in seen:
            least_ones.append(turn)
            seen.update([(times(step, turn), True) for step in inner_turns])
    return tuple(least_ones)


def is_carried_within(yard, carrier):
    return all([has(yard, turn) for turn in carried_makers(yard, carrier)])


def is_even(inner, outer):
    refuse_unless_within(inner, outer)
    # A carried yard has as many turns as the yard, so it is the yard once it lies within; and carried by one turn,
    # then by another, is carried by what both do, so outer's makers speak for all its turns.
    return all([is_carried_within(inner, carrier) for carrier in makers(outer)])


def around(inner, outer):
    refuse_unless_within(inner, outer)
    carriers = makers(outer)
    yard = inner
    # Each even yard that has inner's turns has whatever is put in here, so what comes of it is the least one.
    waiting = list(makers(inner))
    while waiting:
        turn = waiting.pop()
        for carrier in carriers:
            made = carried_turn(turn, carrier)
            if not has(yard, made):
                yard = ladder(makers(yard) + (made,), len(yard))
                waiting.append(made)
    return yard
