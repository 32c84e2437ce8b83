"""Walks over the steps of a graph: for each number its pairs of a hand and the number behind its turn."""


def least_way(steps, start, goals):
    # Goals are truths, one for each number; told are the fewest turns to
    # one of them, of several the least, None where there are none.
    if goals[start]:
        return ()
    return least_way_on(steps, start, goals)


def least_way_on(steps, start, goals):
    # One turn at least. What waits does so by its least turns, and hands rise
    # in steps: so what is come to first is come to by the least turns.
    came = {start: None}
    waiting = [start]
    at = 0
    while at < len(waiting):
        here = waiting[at]
        for hand, there in steps[here]:
            if goals[there]:
                return turns_to(came, here) + (hand,)
            if there not in came:
                came[there] = (here, hand)
                waiting.append(there)
        at += 1
    return None


def turns_to(came, there):
    turns = []
    last = came[there]
    while last is not None:
        turns.append(last[1])
        last = came[last[0]]
    return tuple(reversed(turns))


def finish_order(steps):
    # Depth first; a number stands behind all to which its turns lead, but
    # where they lead back.
    order = []
    seen = [False for here in steps]
    for root in range(len(steps)):
        if not seen[root]:
            finish_from(steps, root, seen, order)
    return order


def finish_from(steps, root, seen, order):
    # A list of what is under way in place of a recursion, which may not go deep.
    seen[root] = True
    path = [root]
    gone = [0]
    while len(path) > 0:
        here = path[-1]
        if gone[-1] == len(steps[here]):
            order.append(here)
            path.pop()
            gone.pop()
        else:
            there = steps[here][gone[-1]][1]
            gone[-1] += 1
            if not seen[there]:
                seen[there] = True
                path.append(there)
                gone.append(0)


def falling_order(steps):
    # None where there is a round: one of its turns leads to what isn't finished yet.
    order = finish_order(steps)
    ended = [False for here in steps]
    for here in order:
        if not all([ended[there] for hand, there in steps[here]]):
            return None
        ended[here] = True
    return order


def turned(steps):
    back = [[] for here in steps]
    for here, ways in enumerate(steps):
        for hand, there in ways:
            back[there].append(here)
    return back


def mark_from(back, root, marks, mark):
    # Against the turns, through all that has no mark yet.
    if marks[root] is not None:
        return
    marks[root] = mark
    waiting = [root]
    while len(waiting) > 0:
        here = waiting.pop()
        for there in back[here]:
            if marks[there] is None:
                marks[there] = mark
                waiting.append(there)


def on_rounds(steps):
    # Numbers have the same mark where turns lead from each to the other.
    back = turned(steps)
    marks = [None for here in steps]
    for root in reversed(finish_order(steps)):
        mark_from(back, root, marks, root)
    return [any([marks[there] == marks[here] for hand, there in ways]) for here, ways in enumerate(steps)]


def leading_to(steps, goals):
    # For each number whether it is a goal or turns lead from it to one.
    back = turned(steps)
    marks = [None for here in steps]
    for root, wanted in enumerate(goals):
        if wanted:
            mark_from(back, root, marks, True)
    return [mark is not None for mark in marks]


def far_from(steps, goals):
    # For each number how many turns there are at least to a goal, None where none lead there.
    back = turned(steps)
    far = [0 if wanted else None for wanted in goals]
    waiting = [here for here, wanted in enumerate(goals) if wanted]
    at = 0
    while at < len(waiting):
        here = waiting[at]
        for there in back[here]:
            if far[there] is None:
                far[there] = far[here] + 1
                waiting.append(there)
        at += 1
    return far


def nearing_way(steps, far, start):
    # The least of the fewest turns to what is nought far, from a number from which turns lead there.
    turns = []
    here = start
    while far[here] > 0:
        step = [found for found in steps[here] if far[found[1]] == far[here] - 1][0]
        turns.append(step[0])
        here = step[1]
    return tuple(turns)


def passed(steps, start, turns):
    # The numbers to which turns of free hands lead, from the start on.
    numbers = [start]
    for hand in turns:
        numbers.append(dict(steps[numbers[-1]])[hand])
    return numbers
