"""Rebuilt: a board of a good house gives way to boards that keep the first thing put on them.

These, the places, keep the row of all deeds on the board. A hand that is to do one puts it on the first place of which
it doesn't know yet what is kept there. Where that is its own now, the deed is done, and the hand knows the answer: it
knows of all deeds ahead of it. Where it is another's, the hand knows of one more deed, and tries the next place.
"""

from pactboards.book import first
from pactboards.errors import NoHouse, NotGood
from pactboards.graphs import graph_of, lines_come_to
from pactboards.numbers import graph_deeds
from pactboards.papers import is_safe_graph
from pactboards.parts import Part


def bound(house, board, most=500):
    return good_bound(house, board, graph_with(house, board, most))


def graph_with(house, board, most):
    if not 0 <= board < len(house[0]):
        raise NoHouse(("board", board))
    return graph_of(house, most)


def good_bound(house, board, graph):
    deeds = graph_deeds(house, graph, board)
    if deeds is None or not is_safe_graph(house, graph):
        raise NotGood()
    return sum(deeds)


def rebuilt(house, board, most=500):
    graph = graph_with(house, board, most)
    many = good_bound(house, board, graph)
    come = lines_come_to(house, graph[0])
    parts = [Part(house, board, hand, told) for hand, told in enumerate(come)]
    places = fill_places(parts, many)
    others = house[0][:board] + house[0][board + 1:]
    boards = others + tuple([(first(len(puts)), 0) for puts in places])
    hands = tuple([part.new_hand(places, len(others)) for part in parts])
    return ((boards, hands), tuple([part.origins(places) for part in parts]))


def fill_places(parts, many):
    # For each place all that may be put there, rising. No run has more deeds
    # than many: so nothing is put behind so many places.
    places = []
    deeds = deeds_of(parts)
    while len(places) < many and len(deeds) > 0:
        places.append(sorted(set([(hand, there) for here, hand, there in deeds])))
        for part in parts:
            part.go_on(deeds)
        deeds = deeds_of(parts)
    return places


def deeds_of(parts):
    told = []
    for part in parts:
        told.extend(part.deeds())
    return told
