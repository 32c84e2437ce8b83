"""Houses: whether one is as it must be, and the inputs by which its hands may begin."""

from pactboards.errors import NoHouse
from pactboards.tables import answers, is_table


def look(house):
    boards = house[0]
    hands = house[1]
    look_at_boards(boards)
    if not 2 <= len(hands) <= 3:
        raise NoHouse(("hands",))
    # Reckoned once a board, not once a line: a rebuilt house has many lines and great tables.
    counts = [answer_counts(table) for table, state in boards]
    for k, hand in enumerate(hands):
        look_at_hand(counts, k, hand)
    return True


def look_at_boards(boards):
    for k, board in enumerate(boards):
        table = board[0]
        if not is_table(table) or not 0 <= board[1] < len(table):
            raise NoHouse(("board", k))


def answer_counts(table):
    return [answers(table, deed) for deed in range(len(table[0]))]


def look_at_hand(counts, k, hand):
    lines = hand[1]
    if not are_lines(hand[0], lines):
        raise NoHouse(("hand", k))
    for number, line in enumerate(lines):
        if not is_line(counts, lines, line):
            raise NoHouse(("line", k, number))


def are_lines(goals, lines):
    # An index from behind would be taken by Python, but is no line.
    return all([0 <= goal < len(lines) for goal in goals])


def is_line(counts, lines, line):
    if line[0] == "settle":
        return line[1] in (0, 1)
    board = line[1]
    deed = line[2]
    goals = line[3]
    if not 0 <= board < len(counts) or not 0 <= deed < len(counts[board]):
        return False
    return len(goals) == counts[board][deed] and are_lines(goals, lines)


def inputs_of(house):
    told = [()]
    for hand in house[1]:
        longer = []
        for inputs in told:
            longer.append(inputs + (0,))
            longer.append(inputs + (1,))
        told = longer
    return told
