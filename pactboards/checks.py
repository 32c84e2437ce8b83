"""The checker of papers: it walks their turns, and looks at their numbers stand by stand."""

from pactboards.graphs import graph_of
from pactboards.houses import inputs_of
from pactboards.papers import is_safe_graph, is_strange, is_unlike
from pactboards.stands import begin, behind, free, settled


def holds(house, paper, most=500):
    graph = graph_of(house, most)
    if paper[0] == "good":
        return numbers_fall(graph, paper[1]) and is_safe_graph(house, graph)
    inputs = paper[1]
    if inputs not in inputs_of(house):
        return False
    stand = walked(house, begin(house, inputs), paper[2])
    if stand is None:
        return False
    if paper[0] == "unlike":
        return is_unlike(settled(house, stand))
    if paper[0] == "strange":
        return is_strange(inputs, settled(house, stand))
    return len(paper[3]) > 0 and walked(house, stand, paper[3]) == stand


def walked(house, stand, turns):
    # None where a turn is no hand's or a settled one's.
    here = stand
    for hand in turns:
        if hand not in free(house, here):
            return None
        here = behind(house, here, hand)
    return here


def numbers_fall(graph, numbers):
    told = [numbers.get(stand) for stand in graph[0]]
    if None in told or min(told) < 0:
        return False
    for here, ways in enumerate(graph[1]):
        if not all([told[there] < told[here] for hand, there in ways]):
            return False
    return True
