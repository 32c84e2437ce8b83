"""Turns in a rebuilt house followed in the old one."""

from pactboards.stands import begin, behind, line_at


def follow(house, board, new, origins, inputs, turns):
    told = []
    here = begin(new, inputs)
    for hand in turns:
        if is_done(new, len(house[0]) - 1, here, hand):
            told.append(hand)
        here = behind(new, here, hand)
    return tuple(told)


def is_done(new, others, stand, hand):
    # Behind the other boards come those that stand for the rebuilt one: a
    # deed on it is done where one of them is still empty, and put off else.
    line = line_at(new, stand, hand)
    if line[0] == "settle":
        return False
    return line[1] < others or stand[1][line[1]] == 0
