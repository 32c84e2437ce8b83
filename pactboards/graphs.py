"""All stands to which turns lead, and the steps between them."""

from pactboards.errors import TooMany
from pactboards.houses import inputs_of
from pactboards.stands import begin, behind, free


def stands_of(house, most=500):
    return graph_of(house, most)[0]


def graph_of(house, most):
    begins = [begin(house, inputs) for inputs in inputs_of(house)]
    return graph_from(house, begins, most)


def graph_from(house, firsts, most):
    # Told are the stands, and for each its steps: pairs of a free hand and
    # the number of the stand behind its turn. Without a most it is None.
    numbers = {}
    for stand in firsts:
        numbers.setdefault(stand, len(numbers))
    stands = list(numbers)
    steps = []
    while len(steps) < len(stands):
        if most is not None and len(stands) > most:
            raise TooMany(most)
        steps.append(steps_from(house, stands[len(steps)], stands, numbers))
    return (stands, steps)


def lines_come_to(house, stands):
    # For each hand the truth of each of its lines.
    told = [[False for line in hand[1]] for hand in house[1]]
    for stand in stands:
        for hand, line in enumerate(stand[0]):
            told[hand][line] = True
    return told


def steps_from(house, stand, stands, numbers):
    # What is come to for the first time goes behind the stands and their numbers.
    steps = []
    for hand in free(house, stand):
        there = behind(house, stand, hand)
        if there not in numbers:
            numbers[there] = len(stands)
            stands.append(there)
        steps.append((hand, numbers[there]))
    return steps
