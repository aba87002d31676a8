"""Ladders: how a yard is told, and how its turns are looked for, numbered and gone through."""

from turnyard.errors import NoNumber
from turnyard.turns import back, is_turn, is_whole, still, times


def left_over(found, turn):
    # Taken off its end step by step, as far as steps are found: nothing but the still turn is left of what they do.
    rest = turn
    for place, steps in enumerate(found):
        if rest[place] not in steps:
            return rest
        rest = times(rest, back(steps[rest[place]]))
    return rest


def products_with(found, turn):
    made = []
    for steps in found:
        for step in steps.values():
            made.append(times(turn, step))
            made.append(times(step, turn))
    return made


def found_steps(row, size):
    # For each rung a dict of turns by points; which turn is the least for a point can be told only behind the last.
    found = [{place: still(size)} for place in range(size)]
    waiting = list(row)
    while waiting:
        rest = left_over(found, waiting.pop())
        moved = [point for point in range(size) if rest[point] != point]
        if moved:
            place = moved[0]
            found[place][rest[place]] = rest
            # When the steps do each two of them done one behind the other, they do every turn of the yard.
            waiting.extend(products_with(found, rest))
    return found


def least_turn(found, place, turn):
    least = turn
    # A later rung's step, done ahead, leaves lesser points as they are, so each part is made least by itself.
    for steps in found[place + 1:]:
        part = min([least[point] for point in steps])
        least = times(steps[least.index(part)], least)
    return least


def rung_at(found, place):
    steps = found[place]
    return tuple([(point, least_turn(found, place, steps[point])) for point in sorted(steps)])


def ladder(row, size):
    found = found_steps(row, size)
    return tuple([rung_at(found, place) for place in range(size)])


def count_of(yard):
    count = 1
    for rung in yard:
        count = count * len(rung)
    return count


def turns_of(yard):
    turns = [still(len(yard))]
    for rung in reversed(yard):
        longer = []
        for pair in rung:
            longer.extend([times(turn, pair[1]) for turn in turns])
        turns = longer
    return tuple(sorted(turns))


def makers(yard):
    # Few turns that make the whole yard: what holds for all its turns if it holds for these is asked of these alone.
    turns = []
    for rung in yard:
        turns.extend([pair[1] for pair in rung])
    return tuple(turns)


def has(yard, turn):
    return number_of(yard, turn) is not None


def is_pair(thing, size):
    if not isinstance(thing, tuple) or len(thing) != 2:
        return False
    return is_whole(thing[0]) and is_turn(thing[1], size)


def is_tuple_of_pairs(thing, size):
    return isinstance(thing, tuple) and all([is_pair(part, size) for part in thing])


def is_ladder(thing, size):
    # Asked ahead of comparing, which would take True for 1.
    if not isinstance(thing, tuple) or not all([is_tuple_of_pairs(rung, size) for rung in thing]):
        return False
    # A ladder's own turns make its yard, and of a yard there is but one ladder.
    return ladder(makers(thing), size) == thing


def number_of(yard, turn):
    number = 0
    rest = turn
    for place, rung in enumerate(yard):
        points = [pair[0] for pair in rung]
        if rest[place] not in points:
            return None
        chosen = points.index(rest[place])
        number = number * len(rung) + chosen
        rest = times(rest, back(rung[chosen][1]))
    return number


def turn_at(yard, number):
    if not is_whole(number) or not 0 <= number < count_of(yard):
        raise NoNumber("no turn of this number")
    turn = still(len(yard))
    left = number
    for rung in reversed(yard):
        turn = times(turn, rung[left % len(rung)][1])
        left = left // len(rung)
    return turn
