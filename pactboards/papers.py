"""Papers: why a house isn't good, by turns, or that it is, by numbers that fall."""

from pactboards.graphs import graph_of
from pactboards.houses import inputs_of
from pactboards.numbers import first_round, graph_numbers
from pactboards.stands import begin, settled
from pactboards.walks import least_way


def is_safe(house, most=500):
    return is_safe_graph(house, graph_of(house, most))


def is_safe_graph(house, graph):
    return fault_of(house, graph) is None


def is_unlike(told):
    return 0 in told and 1 in told


def is_strange(inputs, told):
    return any([value is not None and value not in inputs for value in told])


def paper_of(house, most=500):
    graph = graph_of(house, most)
    fault = fault_of(house, graph)
    if fault is not None:
        return fault
    found = first_round(graph[1])
    if found is None:
        return ("good", graph_numbers(graph))
    goals = [here == found[0] for here in range(len(graph[0]))]
    return ("round",) + fewest(house, graph, lambda inputs: goals) + (found[1],)


def fault_of(house, graph):
    told = [settled(house, stand) for stand in graph[0]]
    unlike = [is_unlike(values) for values in told]
    way = fewest(house, graph, lambda inputs: unlike)
    if way is not None:
        return ("unlike",) + way
    way = fewest(house, graph, lambda inputs: [is_strange(inputs, values) for values in told])
    if way is not None:
        return ("strange",) + way
    return None


def fewest(house, graph, goals_by):
    # A pair of inputs and turns, as few as lead to a goal by any inputs; what
    # is a goal may hang on the inputs, so goals_by tells it of them.
    best = None
    for inputs in inputs_of(house):
        start = graph[0].index(begin(house, inputs))
        turns = least_way(graph[1], start, goals_by(inputs))
        if turns is not None and (best is None or len(turns) < len(best[1])):
            best = (inputs, turns)
    return best
