"""The checker of what is told of houses that are kept open: it walks all turns, and asks the hand that is alone."""

from pactboards.alone import alone
from pactboards.checks import holds, walked
from pactboards.graphs import stands_of
from pactboards.houses import inputs_of
from pactboards.keptopen import look_at_tables
from pactboards.stands import begin, free, run, settled


def holds_open(house, paper, most=500):
    look_at_tables(house)
    stands_of(house, most)
    if paper[0] == "unsafe":
        return paper[1][0] in ("unlike", "strange") and holds(house, paper[1], most)
    inputs = paper[1]
    if inputs not in inputs_of(house):
        return False
    stand = walked(house, begin(house, inputs), paper[2])
    if stand is None:
        return False
    if paper[0] == "alone":
        return is_round(house, stand, paper[3])
    return leads_back(house, stand, paper[3]) and are_ways(house, paper)


def is_round(house, stand, hand):
    return hand in free(house, stand) and alone(house, stand, hand)[0] == "round"


def leads_back(house, stand, again):
    return len(again) > 0 and walked(house, stand, again) == stand


def are_ways(house, paper):
    # The last stand is that behind the turns once more. A stand with ways to
    # both values is open.
    turns = list(paper[2]) + list(paper[3])
    come = run(house, begin(house, paper[1]), turns)[:-1]
    ways = paper[4]
    return len(ways) == len(come) and all([is_pair(house, stand, pair) for stand, pair in zip(come, ways)])


def is_pair(house, stand, pair):
    return is_way(house, stand, pair[0], 0) and is_way(house, stand, pair[1], 1)


def is_way(house, stand, turns, value):
    there = walked(house, stand, turns)
    return there is not None and value in settled(house, there)
