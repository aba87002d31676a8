"""Words: the turn that one does, and a shortest one that does a turn."""

from turnyard.turns import back, still, times


def part_turn(row, part):
    return row[part] if part >= 0 else back(row[-1 - part])


def done(row, size, word):
    turn = still(size)
    for part in word:
        turn = times(turn, part_turn(row, part))
    return turn


def one_part_more(words, reached, steps):
    fresh = []
    for turn in reached:
        for part, step in steps:
            made = times(turn, step)
            if made not in words:
                words[made] = words[turn] + (part,)
                fresh.append(made)
    return fresh


def word_of(row, size, turn):
    steps = [(part, part_turn(row, part)) for part in range(-len(row), len(row))]
    words = {still(size): ()}
    reached = [still(size)]
    # Turns are reached in the order of their words, shorter ones first, then lesser ones: what is left of a least
    # shortest word without its last part is one too, so the first word that does a turn is the one asked for.
    while reached and turn not in words:
        reached = one_part_more(words, reached, steps)
    return words.get(turn)
