"""Houses and their likes: with hands or boards in another order, and without what is of no use."""

from pactboards.graphs import graph_of, lines_come_to


def hands_exchanged(house, order):
    return (house[0], tuple([house[1][hand] for hand in order]))


def boards_exchanged(house, order):
    places = places_of(order)
    hands = [(begins, tuple([moved(line, places) for line in lines])) for begins, lines in house[1]]
    return (tuple([house[0][board] for board in order]), tuple(hands))


def places_of(numbers):
    return dict([(number, place) for place, number in enumerate(numbers)])


def moved(line, places):
    return line if line[0] == "settle" else ("do", places[line[1]], line[2], line[3])


def trimmed(house, most=500):
    come = lines_come_to(house, graph_of(house, most)[0])
    lines = tuple([tuple([line for line, told in enumerate(own) if told]) for own in come])
    boards = boards_used(house, lines)
    hands = tuple([trimmed_hand(hand, own, places_of(boards)) for hand, own in zip(house[1], lines)])
    return ((tuple([house[0][board] for board in boards]), hands), lines, boards)


def boards_used(house, lines):
    used = [False for board in house[0]]
    for hand, own in zip(house[1], lines):
        for line in [hand[1][number] for number in own]:
            if line[0] == "do":
                used[line[1]] = True
    return tuple([board for board, told in enumerate(used) if told])


def trimmed_hand(hand, own, boards):
    places = places_of(own)
    lines = [trimmed_line(moved(hand[1][number], boards), places) for number in own]
    return (tuple([places[number] for number in hand[0]]), tuple(lines))


def trimmed_line(line, places):
    if line[0] == "settle":
        return line
    return ("do", line[1], line[2], tuple([places.get(goal, 0) for goal in line[3]]))
