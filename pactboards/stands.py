"""Stands: where the hands of a house and its boards are, and where turns lead."""

from pactboards.tables import answer, next_state


def begin(house, inputs):
    lines = tuple([hand[0][given] for hand, given in zip(house[1], inputs)])
    return (lines, tuple([state for table, state in house[0]]))


def line_at(house, stand, hand):
    return house[1][hand][1][stand[0][hand]]


def behind(house, stand, hand):
    line = line_at(house, stand, hand)
    if line[0] == "settle":
        return stand
    board = line[1]
    deed = line[2]
    table = house[0][board][0]
    state = stand[1][board]
    goal = line[3][answer(table, state, deed)]
    return (replaced(stand[0], hand, goal), replaced(stand[1], board, next_state(table, state, deed)))


def replaced(numbers, place, number):
    return numbers[:place] + (number,) + numbers[place + 1:]


def run(house, stand, turns):
    stands = [stand]
    for hand in turns:
        stands.append(behind(house, stands[-1], hand))
    return stands


def settled(house, stand):
    return tuple([value_at(line_at(house, stand, hand)) for hand in range(len(house[1]))])


def value_at(line):
    return line[1] if line[0] == "settle" else None


def free(house, stand):
    return [hand for hand, value in enumerate(settled(house, stand)) if value is None]
