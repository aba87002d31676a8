"""Yards and points: where a yard's turns take the points, and which of its turns leave some where they are."""

from turnyard.ladders import ladder, makers, turns_of


def orbit(yard, point):
    steps = makers(yard)
    reached = {point: True}
    waiting = [point]
    while waiting:
        place = waiting.pop()
        for step in steps:
            if step[place] not in reached:
                reached[step[place]] = True
                waiting.append(step[place])
    return tuple(sorted(reached))


def orbits(yard):
    begun = [orbit(yard, point) for point in range(len(yard))]
    # Each orbit was begun at all of its points; the one begun at the least stands for it.
    return tuple([points for point, points in enumerate(begun) if points[0] == point])


def leaves(turn, points):
    return all([turn[point] == point for point in points])


def kept_still(yard, points):
    return ladder(tuple([turn for turn in turns_of(yard) if leaves(turn, points)]), len(yard))
