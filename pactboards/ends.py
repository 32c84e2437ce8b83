"""Ends: the values on which hands may still settle, the ways there, and the stands at which that is decided."""

from pactboards.graphs import graph_from, graph_of
from pactboards.stands import settled
from pactboards.walks import leading_to, least_way


def ends_of(house, stand):
    stands = graph_from(house, [stand], None)[0]
    return tuple([value for value in (0, 1) if any(settled_on(house, stands, value))])


def settled_on(house, stands, value):
    return [value in settled(house, stand) for stand in stands]


def way_to(house, stand, value):
    graph = graph_from(house, [stand], None)
    return least_way(graph[1], 0, settled_on(house, graph[0], value))


def critical(house, most=500):
    graph = graph_of(house, most)
    still = open_numbers(house, graph)
    return [graph[0][here] for here in range(len(still)) if is_critical(graph[1], still, here)]


def open_numbers(house, graph):
    ways = [leading_to(graph[1], settled_on(house, graph[0], value)) for value in (0, 1)]
    return [nought and one for nought, one in zip(ways[0], ways[1])]


def is_critical(steps, still, here):
    return still[here] and not any([still[there] for hand, there in steps[here]])
