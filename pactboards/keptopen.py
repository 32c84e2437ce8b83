"""Kept open: of boards that make no good house, why a house is none, at last by an endless walk of open stands."""

from pactboards.ends import open_numbers, settled_on
from pactboards.errors import NotMeek
from pactboards.graphs import graph_of
from pactboards.papers import fault_of, fewest
from pactboards.stands import begin
from pactboards.tables import is_meek, is_plain
from pactboards.walks import far_from, leading_to, least_way_on, nearing_way, on_rounds, passed


def kept_open(house, most=500):
    look_at_tables(house)
    graph = graph_of(house, most)
    fault = fault_of(house, graph)
    if fault is not None:
        return ("unsafe", fault)
    found = round_alone(house, graph)
    if found is not None:
        return ("alone",) + found
    return ("open",) + open_walk(house, graph)


def look_at_tables(house):
    for k, board in enumerate(house[0]):
        if not is_let_by(board[0], len(house[1])):
            raise NotMeek(k)


def is_let_by(table, hands):
    # What is plain is meek, too.
    return is_meek(table) if hands == 3 else is_plain(table)


def round_alone(house, graph):
    rounds = [never_settling(graph[1], hand) for hand in range(len(house[1]))]
    goals = [any([told[here] for told in rounds]) for here in range(len(graph[0]))]
    way = fewest(house, graph, lambda inputs: goals)
    if way is None:
        return None
    last = passed(graph[1], first_number(house, graph, way[0]), way[1])[-1]
    return way + ([told[last] for told in rounds].index(True),)


def never_settling(steps, hand):
    # For each number whether the hand, alone, goes on for ever from there.
    own = [[step for step in ways if step[0] == hand] for ways in steps]
    return [not told for told in leading_to(own, [len(ways) == 0 for ways in own])]


def first_number(house, graph, inputs):
    return graph[0].index(begin(house, inputs))


def open_walk(house, graph):
    # Where no hand goes on for ever by itself, some begin is open, and from
    # each open stand a turn leads to another one (22): so there is a round.
    still = open_numbers(house, graph)
    steps = [[step for step in ways if still[step[1]]] for ways in graph[1]]
    rounds = on_rounds(steps)
    way = fewest(house, (graph[0], steps), lambda inputs: rounds)
    come = passed(steps, first_number(house, graph, way[0]), way[1])
    again = least_way_on(steps, come[-1], [here == come[-1] for here in range(len(steps))])
    return way + (again, ways_from(house, graph, come[:-1] + passed(steps, come[-1], again)[:-1]))


def ways_from(house, graph, numbers):
    far = [far_from(graph[1], settled_on(house, graph[0], value)) for value in (0, 1)]
    return tuple([(nearing_way(graph[1], far[0], here), nearing_way(graph[1], far[1], here)) for here in numbers])
