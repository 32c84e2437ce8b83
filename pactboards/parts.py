"""The hands of a house of which a board is rebuilt: what each may know at each place, and the lines made of that.

What is put on a place stands for a pair: a hand, and the state to which its deed leads.
"""

from pactboards.tables import answer, next_state
from pactboards.walks import leading_to


class Part:
    def __init__(self, house, board, hand, come):
        self.hand = hand
        self.board = board
        self.table = house[0][board][0]
        self.state = house[0][board][1]
        self.begins = house[1][hand][0]
        self.lines = house[1][hand][1]
        self.come = come
        self.ahead = lines_ahead(self.lines, board, come)
        # For each place pairs of a line and the state that the board has for
        # all that the hand knows there; where no deed on it is ahead any more
        # nothing need be known.
        self.known = [self.spread([(line, self.state) for line in self.begins if self.ahead[line]])]

    def is_deed(self, line):
        # Asked of lines that do a deed: a settle's value is no board.
        return self.lines[line][1] == self.board

    def state_behind(self, line, state):
        return next_state(self.table, state, self.lines[line][2])

    def goal_behind(self, line, state):
        return self.lines[line][3][answer(self.table, state, self.lines[line][2])]

    def spread(self, pairs):
        # Deeds on other boards lead on at the same place.
        told = dict([(pair, True) for pair in pairs])
        waiting = list(told)
        at = 0
        while at < len(waiting):
            pair = waiting[at]
            goals = () if self.is_deed(pair[0]) else self.lines[pair[0]][3]
            for found in [(goal, pair[1]) for goal in goals if self.ahead[goal]]:
                if found not in told:
                    told[found] = True
                    waiting.append(found)
            at += 1
        return waiting

    def deeds(self):
        # At the last place: triples of the state ahead, the hand, the state behind.
        pairs = [pair for pair in self.known[-1] if self.is_deed(pair[0])]
        return [(state, self.hand, self.state_behind(line, state)) for line, state in pairs]

    def go_on(self, deeds):
        pairs = []
        for line, state in self.known[-1]:
            if self.is_deed(line):
                pairs.extend(self.pairs_behind(line, state, deeds))
        self.known.append(self.spread(pairs))

    def pairs_behind(self, line, state, deeds):
        # Whoever did the deed knew of the same ones ahead of it: so of the same state.
        goal = self.goal_behind(line, state)
        own = [(goal, self.state_behind(line, state))] if self.ahead[goal] else []
        return own + [(line, there) for here, hand, there in deeds if here == state and hand != self.hand]

    def nodes(self, places):
        # What each new line is for: triples of an old line, a place, and the state known there.
        told = [(line, 0, 0) for line, come in enumerate(self.come) if come and not self.ahead[line]]
        for place, pairs in enumerate(self.known):
            ended = place == len(places)
            told.extend([(line, place, state) for line, state in pairs if not (ended and self.is_deed(line))])
        return sorted(told)

    def origins(self, places):
        return tuple([node[0] for node in self.nodes(places)])

    def new_hand(self, places, others):
        nodes = self.nodes(places)
        numbers = dict([(node, number) for number, node in enumerate(nodes)])
        begins = tuple([self.number(numbers, line, 0, self.state) for line in self.begins])
        return (begins, tuple([self.new_line(numbers, node, places, others) for node in nodes]))

    def number(self, numbers, line, place, state):
        # Nought where it never comes to that: then it may be any line.
        return numbers.get((line, place, state) if self.ahead[line] else (line, 0, 0), 0)

    def new_line(self, numbers, node, places, others):
        line = self.lines[node[0]]
        if line[0] == "settle":
            return line
        if self.is_deed(node[0]):
            return self.putting_line(numbers, node, places[node[1]], others + node[1])
        board = line[1] if line[1] < self.board else line[1] - 1
        return ("do", board, line[2], tuple([self.number(numbers, goal, node[1], node[2]) for goal in line[3]]))

    def putting_line(self, numbers, node, puts, board):
        # An empty place is never answered, and what is answered counts from 1.
        own = (self.hand, self.state_behind(node[0], node[2]))
        lost = [self.number(numbers, node[0], node[1] + 1, there) for hand, there in puts]
        won = self.number(numbers, self.goal_behind(node[0], node[2]), node[1] + 1, own[1])
        goals = [won if put == own else goal for put, goal in zip(puts, lost)]
        return ("do", board, puts.index(own), (0,) + tuple(goals))


def lines_ahead(lines, board, come):
    # For each line whether a deed on the board may be come to from it.
    steps = [goals_of(line, come) if told else [] for line, told in zip(lines, come)]
    return leading_to(steps, [told and line[0] == "do" and line[1] == board for line, told in zip(lines, come)])


def goals_of(line, come):
    # As steps: their hand is of no matter.
    return [] if line[0] == "settle" else [(0, goal) for goal in line[3] if come[goal]]
