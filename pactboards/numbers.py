"""Numbers that fall with each deed, the first round where there is one, and how many deeds are done on a board."""

from pactboards.graphs import graph_of
from pactboards.stands import line_at
from pactboards.walks import falling_order, least_way_on, on_rounds


def numbers_of(house, most=500):
    return graph_numbers(graph_of(house, most))


def graph_numbers(graph):
    steps = graph[1]
    order = falling_order(steps)
    if order is None:
        return None
    return dict(zip(graph[0], most_from(steps, order, lambda here, hand: 1)))


def most_from(steps, order, worth):
    # What turns are worth together, at most, from each number on; in the
    # falling order what is behind a turn is reckoned ahead of it.
    told = [0 for here in steps]
    for here in order:
        told[here] = max([worth(here, hand) + told[there] for hand, there in steps[here]], default=0)
    return told


def round_of(house, most=500):
    graph = graph_of(house, most)
    found = first_round(graph[1])
    if found is None:
        return None
    return (graph[0][found[0]], found[1])


def first_round(steps):
    rounds = on_rounds(steps)
    if True not in rounds:
        return None
    first = rounds.index(True)
    return (first, least_way_on(steps, first, [here == first for here in range(len(steps))]))


def deeds_at(house, board, most=500):
    return graph_deeds(house, graph_of(house, most), board)


def graph_deeds(house, graph, board):
    order = falling_order(graph[1])
    if order is None:
        return None
    return tuple([most_deeds(house, graph, order, hand, board) for hand in range(len(house[1]))])


def most_deeds(house, graph, order, hand, board):
    # Each stand is come to from a begin: no stand has more ahead than some begin.
    def worth(here, mover):
        return 1 if mover == hand and line_at(house, graph[0][here], mover)[1] == board else 0

    return max(most_from(graph[1], order, worth))
