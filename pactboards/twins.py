"""Twins: turns of two hands in either order behind which some hand can't tell the stands apart."""

from pactboards.stands import run


def same_to(one, other, hand):
    return one[0][hand] == other[0][hand] and one[1] == other[1]


def twins(house, stand, i, j):
    # Both rows of turns and the hands rise: so what is told is sorted.
    told = []
    for one in ((i,), (i, j)):
        for other in ((j,), (j, i)):
            there = run(house, stand, one)[-1]
            yonder = run(house, stand, other)[-1]
            told.extend([(one, other, k) for k in range(len(house[1])) if same_to(there, yonder, k)])
    return told
