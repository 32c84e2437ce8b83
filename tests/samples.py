"""Houses for the tests, and what the document says of them, reckoned the slow way."""

import functools
import itertools
import random

ONE = (((0, 0),),)
# A look, and a laying of 0 and of 1.
PLAIN = (((0, 0), (0, 0), (1, 0)), ((1, 1), (0, 0), (1, 0)))
# Deed v puts v + 1 where nothing stands yet, and is answered what stands there then.
FIRST = (((1, 1), (2, 2)), ((1, 1), (1, 1)), ((2, 2), (2, 2)))
# One deed: answered 0 for the first time, 1 from then on.
ONCE = (((1, 0),), ((1, 1),))
# Deed v lays v and is answered what was there: meek, not plain.
SWAP = (((0, 0), (1, 0)), ((0, 1), (1, 1)))
# One deed, one more each time, answered what was there.
COUNT = (((1, 0),), ((2, 1),), ((3, 2),), ((0, 3),))

PUTS = ((0, 1), (("do", 0, 0, (2, 2, 3)), ("do", 0, 1, (2, 2, 3)), ("settle", 0), ("settle", 1)))
GOOD_OF_TWO = (((FIRST, 0),), (PUTS, PUTS))
GOOD_OF_THREE = (((FIRST, 0),), (PUTS, PUTS, PUTS))


def teller(own, other):
    """A hand that lays what it began with, and is told by board 0 whether it was the first."""
    return ((0, 1), (
        ("do", own, 1, (2,)), ("do", own, 2, (3,)),
        ("do", 0, 0, (5, 4)), ("do", 0, 0, (6, 4)),
        ("do", other, 0, (5, 6)), ("settle", 0), ("settle", 1)))


GOOD_BY_ONCE = (((ONCE, 0), (PLAIN, 0), (PLAIN, 1)), (teller(1, 2), teller(2, 1)))
EACH_ITS_OWN = ((), (((0, 1), (("settle", 0), ("settle", 1))),) * 2)
ALWAYS_NOUGHT = ((), (((0, 0), (("settle", 0),)),) * 2)
# Each waits until the board is no longer in state 0, which nobody changes.
WAITING = (((PLAIN, 0),), (((0, 0), (("do", 0, 0, (0, 1)), ("settle", 0))),) * 2)


# As PLAIN, of three states, the last for nothing laid yet.
PLAIN_OF_THREE = tuple(((s, s), (0, 0), (1, 0), (2, 0)) for s in range(3))


def racer(own, other):
    """A hand that lays its value, and settles on it where the other's is the same or missing; else it takes that."""
    return ((0, 1), (
        ("do", own, 1, (2,)), ("do", own, 2, (3,)),
        ("do", other, 0, (4, 1, 4)), ("do", other, 0, (0, 5, 5)), ("settle", 0), ("settle", 1)))


# Safe, of plain boards, and each hand alone settles: so it is kept open.
RACE_OF_TWO = (((PLAIN_OF_THREE, 2), (PLAIN_OF_THREE, 2)), (racer(0, 1), racer(1, 0)))
# One more and one less, all in a ring of eleven; both are answered what was there: meek, not plain.
RING = tuple((((s - 1) % 11, s), ((s + 1) % 11, s)) for s in range(11))


def ring_goal(value, place):
    """Three off the middle, 5, it is settled; else the hand goes on the way that is ahead."""
    if abs(place - 5) >= 3:
        return 2 if place < 5 else 3
    return value if place == 5 else int(place > 5)


RUNNER = ((0, 1), (
    ("do", 0, 0, tuple(ring_goal(0, s - 1) for s in range(11))),
    ("do", 0, 1, tuple(ring_goal(1, s + 1) for s in range(11))), ("settle", 0), ("settle", 1)))
# Safe, of a meek board, and each hand alone settles: so it is kept open.
RACE_OF_THREE = (((RING, 5),), (RUNNER,) * 3)


def chain(many):
    """A house of that many stands for one hand's deeds: the other has settled."""
    lines = tuple(("do", 0, 0, (n + 1,)) for n in range(many - 1)) + (("settle", 0),)
    return (((ONE, 0),), (((0, 0), (("settle", 0),)), ((0, 0), lines)))


def wide(many):
    """A house in which three hands count on by themselves: that many times itself, thrice."""
    table = tuple((((s + 1) % many, 0),) for s in range(many))
    return (((table, 0),) * 3, tuple(((0, 0), (("do", k, 0, (0,)),)) for k in range(3)))


def spread(many):
    """A house in which each of three hands does deeds on its own board, fewer than many: so that many stands, thrice
    by itself, and far more runs."""
    lines = [tuple(("do", k, 0, (n + 1,)) for n in range(many - 1)) + (("settle", 0),) for k in range(3)]
    return (((ONE, 0),) * 3, tuple(((0, 0), own) for own in lines))


def slow_good(ahead, behind):
    """A good house of 14 + 4 * ahead + 3 * behind stands: hand 0 does so many deeds on a further board ahead of its put
    where it begins with 0, and so many behind that where the answer is 1."""
    lines = list(PUTS[1])
    at, last = 0, 2
    for n in range(ahead):
        lines.append(("do", 1, 0, (at,)))
        at = len(lines) - 1
    for n in range(behind):
        lines.append(("do", 1, 0, (last,)))
        last = len(lines) - 1
    lines[0] = ("do", 0, 0, (2, last, 3))
    return (GOOD_OF_TWO[0] + ((ONE, 0),), (((at, 1), tuple(lines)), PUTS))


def one_of(source, many):
    return source.randrange(many)


def any_table(source, states=4, deeds=3, told=3):
    many = 1 + one_of(source, states)
    width = 1 + one_of(source, deeds)
    return tuple(tuple((one_of(source, many), one_of(source, told)) for d in range(width)) for s in range(many))


def plain_table(source, states=3, deeds=3, told=3):
    many = 1 + one_of(source, states)
    columns = []
    for d in range(1 + one_of(source, deeds)):
        if one_of(source, 2):
            columns.append([(s, one_of(source, told)) for s in range(many)])
        else:
            columns.append([(one_of(source, many), 0)] * many)
    return tuple(zip(*columns))


def is_meek_table(table):
    """What [5] says, word by word."""
    for row in table:
        for one in range(len(row)):
            for other in range(len(row)):
                by_one, by_other = row[one][0], row[other][0]
                both, turned = table[by_one][other][0], table[by_other][one][0]
                if both != turned and both != by_other and turned != by_one:
                    return False
    return True


def meek_table(source):
    while True:
        table = any_table(source)
        if is_meek_table(table):
            return table


def deed_answers(table, deed):
    return max(row[deed][1] for row in table) + 1


def any_line(source, tables, lines):
    if not tables or one_of(source, 5) == 0:
        return ("settle", one_of(source, 2))
    b = one_of(source, len(tables))
    d = one_of(source, len(tables[b][0]))
    return ("do", b, d, tuple(one_of(source, lines) for told in range(deed_answers(tables[b], d))))


def any_hand(source, tables, most_lines):
    many = 2 + one_of(source, most_lines)
    begins = (one_of(source, many), one_of(source, many))
    return (begins, tuple(any_line(source, tables, many) for n in range(many)))


def any_house(source, tables=None, hands=None, most_lines=5):
    if tables is None:
        tables = [any_table(source) for k in range(one_of(source, 4))]
    boards = tuple((table, one_of(source, len(table))) for table in tables)
    many = hands or 2 + one_of(source, 2)
    return (boards, tuple(any_hand(source, tables, most_lines) for k in range(many)))


def onward_hand(source, tables, most_lines):
    """A hand each of whose goals is a later line: it comes to no round."""
    many = 2 + one_of(source, most_lines)
    lines = []
    for n in range(many):
        kind, *rest = ("settle", one_of(source, 2)) if n == many - 1 else any_line(source, tables, many)
        if kind == "do":
            rest[2] = tuple(n + 1 + one_of(source, many - n - 1) for goal in rest[2])
        lines.append((kind, *rest))
    return ((one_of(source, many), one_of(source, many)), tuple(lines))


def onward_house(source, hands=None, most_lines=5):
    tables = [any_table(source) for k in range(one_of(source, 4))]
    boards = tuple((table, one_of(source, len(table))) for table in tables)
    many = hands or 2 + one_of(source, 2)
    return (boards, tuple(onward_hand(source, tables, most_lines) for k in range(many)))


def house_of_words(source):
    """A house with a paper of any word: now and then its goals lead onward, now and then it settles on one value."""
    house = (onward_house if one_of(source, 2) else any_house)(source)
    kind = one_of(source, 4)
    if kind < 2:
        return house
    return (house[0], tuple((begins, tuple(("settle", kind - 2) if line[0] == "settle" else line for line in lines))
                            for begins, lines in house[1]))


def shuffled(source, hand):
    """The hand with its lines in another order, and perhaps some more to which nothing leads."""
    begins, lines = hand
    lines = lines + tuple(("settle", one_of(source, 2)) for k in range(one_of(source, 3)))
    order = list(range(len(lines)))
    source.shuffle(order)
    place = {old: new for new, old in enumerate(order)}
    told = [line if line[0] == "settle" else line[:3] + (tuple(place[goal] for goal in line[3]),) for line in lines]
    return (tuple(place[n] for n in begins), tuple(told[old] for old in order))


def bent(source, hand):
    """The hand with one of its lines' goals or values another one, or one of its begins."""
    begins, lines = hand
    at = one_of(source, len(lines))
    line = lines[at]
    if one_of(source, 5) == 0:
        return ((one_of(source, len(lines)), begins[1]), lines)
    if line[0] == "settle":
        line = ("settle", one_of(source, 2))
    else:
        goals = list(line[3])
        goals[one_of(source, len(goals))] = one_of(source, len(lines))
        line = line[:3] + (tuple(goals),)
    return (begins, lines[:at] + (line,) + lines[at + 1:])


def near_good(source):
    return near(source, (GOOD_OF_TWO, GOOD_OF_THREE, GOOD_BY_ONCE, GOOD_BY_ONCE))


def near_race(source):
    return near(source, (RACE_OF_TWO, RACE_OF_THREE))


def near(source, houses):
    """One of the houses with its lines in any order, now and then with a line bent in one of its hands."""
    boards, hands = source.choice(houses)
    hands = [shuffled(source, hand) for hand in hands]
    for k in range(one_of(source, 3)):
        own = one_of(source, len(hands))
        hands[own] = bent(source, hands[own])
    return (boards, tuple(hands))


def boards_moved(source, house):
    """The house with its boards in another order."""
    order = list(range(len(house[0])))
    source.shuffle(order)
    hands = tuple((begins, tuple(line if line[0] == "settle" else ("do", order.index(line[1])) + line[2:]
                                 for line in lines)) for begins, lines in house[1])
    return (tuple(house[0][old] for old in order), hands)


def with_detours(source, hand, first, tables, many):
    """The hand with deeds on further boards, from the first on, ahead of some of its lines: by their answers it goes
    on to that line at once, or by other such deeds."""
    begins, lines = hand
    ways = {}
    lines = list(lines)
    for k in range(many):
        goal = one_of(source, len(hand[1]))
        ways.setdefault(goal, [goal])
        b = one_of(source, len(tables))
        d = one_of(source, len(tables[b][0]))
        told = tuple(source.choice(ways[goal]) for a in range(deed_answers(tables[b], d)))
        lines.append(("do", first + b, d, told))
        ways[goal].append(len(lines) - 1)
    for n in range(len(hand[1])):
        if lines[n][0] == "do":
            lines[n] = lines[n][:3] + (tuple(source.choice(ways.get(goal, [goal])) for goal in lines[n][3]),)
    return (tuple(ways.get(n, [n])[-1] for n in begins), tuple(lines))


def good_house(source):
    """A good house with deeds on further boards, perhaps none, all boards and lines in any order."""
    boards, hands = source.choice((GOOD_OF_TWO, GOOD_OF_THREE, GOOD_BY_ONCE))
    tables = [any_table(source) for k in range(1 + one_of(source, 2))]
    many = one_of(source, 5)
    hands = [shuffled(source, with_detours(source, hand, len(boards), tables, many)) for hand in hands]
    boards += tuple((table, one_of(source, len(table))) for table in tables)
    return boards_moved(source, (boards, tuple(hands)))


def some_houses(many, seed, make=any_house):
    source = random.Random(seed)
    return [make(source) for k in range(many)]


def every_stand(house):
    """Any stand of a house, whether or not turns lead there."""
    lines = [range(len(hand[1])) for hand in house[1]]
    states = [range(len(table)) for table, state in house[0]]
    for numbers in itertools.product(*lines):
        for found in itertools.product(*states):
            yield (numbers, found)


def settles(house, stand):
    """For each hand that has settled its number and its value."""
    lines = [hand[1][n] for hand, n in zip(house[1], stand[0])]
    return [(k, line[1]) for k, line in enumerate(lines) if line[0] == "settle"]


def values(house, stand):
    return {value for k, value in settles(house, stand)}


def movers(house, stand):
    ended = dict(settles(house, stand))
    return [k for k in range(len(house[1])) if k not in ended]


def after(house, stand, hand):
    lines, states = list(stand[0]), list(stand[1])
    line = house[1][hand][1][lines[hand]]
    if line[0] == "do":
        kind, b, d, goals = line
        states[b], told = house[0][b][0][states[b]][d]
        lines[hand] = goals[told]
    return (tuple(lines), tuple(states))


def after_all(house, stand, turns):
    for hand in turns:
        stand = after(house, stand, hand)
    return stand


def first_stand(house, inputs):
    return (tuple(begins[v] for (begins, lines), v in zip(house[1], inputs)), tuple(state for t, state in house[0]))


def all_inputs(house):
    return list(itertools.product((0, 1), repeat=len(house[1])))


def all_stands(house, enough=2000):
    """The stands in the order of [13], or None where there are more than enough."""
    told = []
    for inputs in all_inputs(house):
        if first_stand(house, inputs) not in told:
            told.append(first_stand(house, inputs))
    known = set(told)
    for stand in told:
        for hand in movers(house, stand):
            there = after(house, stand, hand)
            if there not in known:
                known.add(there)
                told.append(there)
        if len(told) > enough:
            return None
    return told


def led_from(house, stand):
    """All stands to which turns lead from one, itself among them."""
    known, waiting = {stand}, [stand]
    while waiting:
        here = waiting.pop()
        for hand in movers(house, here):
            there = after(house, here, hand)
            if there not in known:
                known.add(there)
                waiting.append(there)
    return known


def own_round(house, stand, hand):
    """Whether a hand alone never settles: it comes to a stand again."""
    known = []
    while stand not in known and hand in movers(house, stand):
        known.append(stand)
        stand = after(house, stand, hand)
    return stand in known


def kinds_within(value):
    """All kinds of things within tuples."""
    if value.__class__ is tuple:
        return {tuple}.union(*[kinds_within(part) for part in value])
    return {value.__class__}


def deeds_left(house, stands):
    """For each stand the most deeds that can still be done, or None where there is a round: level by level the stands
    from which so many deeds can be done."""
    nexts = {stand: [after(house, stand, hand) for hand in movers(house, stand)] for stand in stands}
    level, left = set(stands), {}
    for many in range(len(stands) + 1):
        for stand in level:
            left[stand] = many
        level = {stand for stand in stands if any(there in level for there in nexts[stand])}
    return None if level else left


def most_there(house, hand, board):
    """The most deeds of a hand on a board in any run by inputs, where there is no round."""
    @functools.lru_cache(None)
    def left(stand):
        told = [0]
        for mover in movers(house, stand):
            line = house[1][mover][1][stand[0][mover]]
            told.append(left(after(house, stand, mover)) + (mover == hand and line[1] == board))
        return max(told)
    return max(left(first_stand(house, inputs)) for inputs in all_inputs(house))


def least_turns(house, stand, is_goal, fewest=0, most=None):
    """The least of the fewest turns of free hands to a goal, or None: level by level the least turns to each stand."""
    most = len(led_from(house, stand)) if most is None else most
    level = {stand: ()}
    for many in range(most + 1):
        found = [turns for there, turns in level.items() if is_goal(there)]
        if found and many >= fewest:
            return min(found)
        longer = {}
        for here, turns in level.items():
            for hand in movers(house, here):
                there = after(house, here, hand)
                longer[there] = min(longer.get(there, turns + (hand,)), turns + (hand,))
        level = longer
    return None


def least_round(house, stands):
    for stand in stands:
        turns = least_turns(house, stand, lambda there: there == stand, 1)
        if turns is not None:
            return (stand, turns)
    return None


def wrong_turns(house, is_wrong):
    """How many turns there are at least, by any inputs, to a stand in which something wrong is settled on, or None."""
    told = [least_turns(house, first_stand(house, inputs), lambda there: is_wrong(inputs, values(house, there)))
            for inputs in all_inputs(house)]
    return min([len(turns) for turns in told if turns is not None], default=None)


def unlike(inputs, found):
    return found == {0, 1}


def strange(inputs, found):
    return not found <= set(inputs)


def is_unsafe(house):
    """What [15] says, the other way round."""
    for inputs in all_inputs(house):
        for stand in led_from(house, first_stand(house, inputs)):
            found = values(house, stand)
            if unlike(inputs, found) or strange(inputs, found):
                return True
    return False


def word_of(house, stands):
    if wrong_turns(house, unlike) is not None:
        return "unlike"
    if wrong_turns(house, strange) is not None:
        return "strange"
    return "round" if deeds_left(house, stands) is None else "good"


def small_houses(many, seed, make, most):
    """Houses of at most so many stands, each with its stands."""
    told = []
    for house in some_houses(many, seed, make):
        stands = all_stands(house, most)
        if stands is not None and len(stands) <= most:
            told.append((house, stands))
    return told
