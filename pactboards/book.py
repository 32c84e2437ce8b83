"""The book of tables, and the good houses that are made of them."""

from pactboards.errors import NoMark
from pactboards.tables import answer, answers, next_state


def first(n):
    empty = tuple([(v, v) for v in range(1, n + 1)])
    return (empty,) + tuple([tuple([(v, v) for deed in range(n)]) for v in range(1, n + 1)])


def plain(n):
    layings = tuple([(v, 0) for v in range(n)])
    return tuple([((state, state),) + layings for state in range(n)])


def swap(n):
    return tuple([tuple([(v, state) for v in range(n)]) for state in range(n)])


def add(n):
    return tuple([(((state + 1) % n, state),) for state in range(n)])


def mark(table):
    for state in range(len(table)):
        for deed in range(len(table[0])):
            if answer(table, state, deed) != answer(table, next_state(table, state, deed), deed):
                return (state, deed)
    return None


def pact_of(table):
    # Each hand does the marked deed once: whoever is answered as the first one
    # settles on its own, the other on what the first one laid ahead of that.
    found = mark(table)
    if found is None:
        raise NoMark()
    boards = ((table, found[0]), (plain(2), 0), (plain(2), 0))
    return (boards, (laying_hand(table, found, 1, 2), laying_hand(table, found, 2, 1)))


def laying_hand(table, found, own, other):
    deed = found[1]
    return ((0, 1), (
        ("do", own, 1, (2,)),
        ("do", own, 2, (3,)),
        ("do", 0, deed, goals_by_first(table, found, 5)),
        ("do", 0, deed, goals_by_first(table, found, 6)),
        ("do", other, 0, (5, 6)),
        ("settle", 0),
        ("settle", 1)))


def goals_by_first(table, found, goal):
    ahead = answer(table, found[0], found[1])
    return tuple([goal if told == ahead else 4 for told in range(answers(table, found[1]))])


def pact_first(hands):
    # Each puts its own; the answer, 1 or 2, tells what was put first.
    lines = (("do", 0, 0, (2, 2, 3)), ("do", 0, 1, (2, 2, 3)), ("settle", 0), ("settle", 1))
    return (((first(2), 0),), tuple([((0, 1), lines) for hand in range(hands)]))
