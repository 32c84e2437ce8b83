"""Promises [7], [8], and of [10] what it says of inputs."""

import itertools
import unittest

from pactboards.errors import NoHouse
from pactboards.houses import inputs_of, look

FAR = 10 ** 30
ONE = (((0, 0),),)
PLAIN = (((0, 0), (0, 0), (1, 0)), ((1, 1), (0, 0), (1, 0)))
# The greatest answers stand neither in the first nor in the last state.
HIDDEN = (((1, 0), (0, 1)), ((2, 3), (3, 0)), ((3, 1), (1, 2)), ((0, 0), (2, 0)))
WIDE = (((0, 1), (1, 0), (2, 0), (0, 2)), ((1, 0), (1, 0), (2, 1), (0, 0)), ((2, 0), (1, 0), (2, 3), (2, 0)))
BOARDS = ((PLAIN, 1), (ONE, 0), (HIDDEN, 3), (WIDE, 2))
LONG = ((0, 7), (
    ("do", 0, 0, (0, 7)), ("do", 1, 0, (4,)), ("do", 2, 0, (3, 2, 1, 0)), ("settle", 0),
    ("do", 2, 1, (7, 7, 0)), ("do", 3, 2, (5, 6, 7, 1)), ("settle", 1), ("do", 3, 3, (2, 0, 3))))
MIDDLE = ((2, 0), (("settle", 1), ("do", 0, 2, (2,)), ("do", 3, 0, (0, 1))))
SHORT = ((0, 0), (("settle", 0),))
LAST = ((1, 2), (("do", 0, 1, (2,)), ("do", 3, 1, (0,)), ("settle", 1)))
GREAT = (BOARDS, (LONG, MIDDLE, LAST))
HOUSES = (GREAT, (BOARDS, (LONG, LONG, LONG)), (BOARDS[::-1], (SHORT, SHORT)), (BOARDS, (SHORT, LONG, SHORT)),
          (BOARDS, (MIDDLE, LONG)), ((), (SHORT, SHORT)), ((), (SHORT, SHORT, SHORT)),
          (((ONE, 0),), (SHORT, ((0, 0), (("do", 0, 0, (0,)),)))))


def put(value, path, new):
    """The nested tuples with something new at a place."""
    if not path:
        return new
    k = path[0]
    return value[:k] + (put(value[k], path[1:], new),) + value[k + 1:]


def beyond(many):
    return (-FAR, -many - 1, -many, -1, many, many + 1, FAR)


def board_faults(k, board):
    place = ("board", k)
    table, state = board
    for wrong in beyond(len(table)):
        yield place, (0, k, 1), wrong
    yield place, (0, k, 0), ()
    yield place, (0, k, 0), ((),)
    yield place, (0, k, 0), ((),) * len(table)
    for s, row in enumerate(table):
        yield place, (0, k, 0, s), ()
        if len(table) > 1:
            yield place, (0, k, 0, s), row[1:]
            yield place, (0, k, 0, s), row + row[:1]
        for d, pair in enumerate(row):
            for wrong in beyond(len(table)):
                yield place, (0, k, 0, s, d, 0), wrong
            for wrong in (-1, -2, -FAR):
                yield place, (0, k, 0, s, d, 1), wrong


def line_faults(house, k, number):
    place = ("line", k, number)
    path = (1, k, 1, number)
    lines = house[1][k][1]
    line = lines[number]
    if line[0] == "settle":
        for wrong in (-FAR, -2, -1, 2, 3, FAR):
            yield place, path + (1,), wrong
        return
    for wrong in beyond(len(house[0])):
        yield place, path + (1,), wrong
    for wrong in beyond(len(house[0][line[1]][0][0])):
        yield place, path + (2,), wrong
    goals = line[3]
    for wrong in ((), goals[1:], goals[:-1], goals + goals[:1], goals * 2, (0,) * 50):
        yield place, path + (3,), wrong
    for at in range(len(goals)):
        for wrong in beyond(len(lines)):
            yield place, path + (3, at), wrong


def hand_faults(house, k):
    lines = house[1][k][1]
    yield ("hand", k), (1, k, 1), ()
    for at in range(2):
        for wrong in beyond(len(lines)):
            yield ("hand", k), (1, k, 0, at), wrong
    for number in range(len(lines)):
        yield from line_faults(house, k, number)


def faults_of(house):
    """Places that are wrong, each with where the house is changed and to what."""
    for k, board in enumerate(house[0]):
        yield from board_faults(k, board)
    for k in range(len(house[1])):
        yield from hand_faults(house, k)


def rank(place):
    """Where a place stands in the order of [8]."""
    if place[0] == "board":
        return (0, place[1])
    if place[0] == "hands":
        return (1,)
    return (2, place[1], -1 if place[0] == "hand" else place[2])


def apart(one, other):
    """Whether neither of two paths leads on from the other."""
    return all(mine != yours for mine, yours in [(one[:len(other)], other), (other[:len(one)], one)])


def counted(house, many):
    """The house with that many hands, its own again and again."""
    hands = house[1]
    return (house[0], (hands * many)[:many])


class Look(unittest.TestCase):
    def refused(self, house, place):
        with self.assertRaises(NoHouse, msg=house) as taken:
            look(house)
        told = taken.exception.place
        self.assertEqual(told, place, house)
        self.assertIs(told.__class__, tuple)
        self.assertEqual([part.__class__ for part in told], [str] + [int] * (len(told) - 1))

    def test_true_where_nothing_is_wrong(self):
        for house in HOUSES:
            with self.subTest(house=house):
                self.assertIs(look(house), True)

    def test_every_right_number_is_let_by(self):
        for k, (table, state) in enumerate(BOARDS):
            for begin in range(len(table)):
                self.assertIs(look(put(GREAT, (0, k, 1), begin)), True)
        for goal in range(8):
            self.assertIs(look(put(GREAT, (1, 0, 1, 0, 3, 0), goal)), True)
            self.assertIs(look(put(GREAT, (1, 0, 0, 0), goal)), True)
            self.assertIs(look(put(GREAT, (1, 0, 0, 1), goal)), True)
        for value in (0, 1):
            self.assertIs(look(put(GREAT, (1, 0, 1, 3, 1), value)), True)

    def test_greater_houses_than_the_bounds_are_let_by(self):
        table = tuple(tuple((s, s) for d in range(9)) for s in range(30))
        lines = tuple(("do", n % 12, n % 9, (n,) * 30) for n in range(300))
        house = (((table, 29),) * 12, (((0, 299), lines),) * 3)
        self.assertIs(look(house), True)
        self.refused(put(house, (1, 2, 1, 299, 3, 29), 300), ("line", 2, 299))

    def test_an_answer_may_be_of_any_size(self):
        for told in (0, 1, 1000, FAR):
            table = (((0, told),),)
            self.assertIs(look((((table, 0),), (SHORT, SHORT))), True)

    def test_each_thing_that_is_wrong(self):
        for house in HOUSES:
            for place, path, wrong in faults_of(house):
                self.refused(put(house, path, wrong), place)

    def test_how_many_hands(self):
        for house in HOUSES:
            for many in range(8):
                if many in (2, 3):
                    self.assertIs(look(counted(house, many)), True)
                else:
                    self.refused(counted(house, many), ("hands",))
        self.refused(((), ()), ("hands",))
        self.refused(((), (SHORT,)), ("hands",))
        self.refused((BOARDS, (SHORT,) * 50), ("hands",))

    def test_no_board_is_there_for_a_deed(self):
        for wrong in (-FAR, -1, 0, 1, FAR):
            hand = ((0, 0), (("settle", 0), ("do", wrong, 0, (0,))))
            self.refused(((), (SHORT, hand)), ("line", 1, 1))
            self.refused(((), (hand, SHORT)), ("line", 0, 1))

    def test_goals_are_counted_by_the_deed_on_its_board(self):
        counts = {(0, 0): 2, (0, 1): 1, (0, 2): 1, (1, 0): 1, (2, 0): 4, (2, 1): 3,
                  (3, 0): 2, (3, 1): 1, (3, 2): 4, (3, 3): 3}
        for (board, deed), many in counts.items():
            for told in range(7):
                hand = ((0, 0), (("do", board, deed, (0,) * told),))
                house = (BOARDS, (SHORT, hand))
                with self.subTest(board=board, deed=deed, told=told):
                    if told == many:
                        self.assertIs(look(house), True)
                    else:
                        self.refused(house, ("line", 1, 0))

    def test_the_greatest_answer_in_any_state_counts(self):
        for states in range(1, 5):
            for place in range(states):
                table = tuple(((0, 3 if s == place else 0),) for s in range(states))
                for told in range(7):
                    house = (((table, 0),), (((0, 0), (("do", 0, 0, (0,) * told),)), SHORT))
                    if told == 4:
                        self.assertIs(look(house), True)
                    else:
                        self.refused(house, ("line", 0, 0))

    def test_lines_to_which_nothing_leads_are_looked_at(self):
        hand = ((0, 0), (("settle", 0), ("settle", 2)))
        self.refused(((), (SHORT, hand)), ("line", 1, 1))

    def test_of_two_things_the_first_is_told(self):
        picked = {}
        for place, path, wrong in faults_of(GREAT):
            picked.setdefault(place, []).append((path, wrong))
        # A first and a last fault of each place: another part of it each.
        ends = [(place,) + fault for place, faults in picked.items() for fault in (faults[0], faults[-1])]
        for one, other in itertools.combinations(ends, 2):
            if one[0] != other[0] and apart(one[1], other[1]):
                house = put(put(GREAT, one[1], one[2]), other[1], other[2])
                self.refused(house, min(one[0], other[0], key=rank))

    def test_boards_go_ahead_of_the_count_of_hands_and_that_of_the_rest(self):
        for place, path, wrong in faults_of(GREAT):
            for many in (1, 4, 5):
                house = counted(put(GREAT, path, wrong), many)
                self.refused(house, min(place, ("hands",), key=rank))

    def test_a_hand_goes_ahead_of_its_lines_and_behind_those_of_the_last(self):
        bad_line = ((0, 0), (("settle", 0), ("settle", 9)))
        bad_hand = ((0, 2), (("settle", 0), ("settle", 9)))
        self.refused(((), (bad_line, bad_hand)), ("line", 0, 1))
        self.refused(((), (bad_hand, bad_line)), ("hand", 0))
        self.refused(((), (SHORT, bad_hand, bad_line)), ("hand", 1))
        self.refused(((), (SHORT, bad_line, bad_hand)), ("line", 1, 1))
        self.refused(((), (SHORT, SHORT, bad_hand)), ("hand", 2))

    def test_all_at_once(self):
        """From the last fault to the first, each put in beside those behind it."""
        house = GREAT
        order = [("line", k, number) for k in (2, 1, 0) for number in reversed(range(len(GREAT[1][k][1])))]
        for place in order:
            k, number = place[1:]
            house = put(house, (1, k, 1, number), ("settle", 2))
            self.refused(house, place)
        for k in (2, 1, 0):
            house = put(house, (1, k, 0, 1), -1)
            self.refused(house, ("hand", k) if k == 0 else ("line", 0, 0))
        house = counted(house, 4)
        self.refused(house, ("hands",))
        for k in (3, 2, 1, 0):
            house = put(house, (0, k, 1), -1)
            self.refused(house, ("board", k))

    def test_the_same_question_has_the_same_answer(self):
        for place, path, wrong in list(faults_of(GREAT))[::7]:
            self.refused(put(GREAT, path, wrong), place)
            self.assertIs(look(GREAT), True)
            self.refused(put(GREAT, path, wrong), place)

    def test_an_argument_by_its_name(self):
        self.assertIs(look(house=GREAT), True)
        with self.assertRaises(NoHouse):
            look(house=((), ()))


class Inputs(unittest.TestCase):
    def test_of_two_hands(self):
        self.assertEqual(inputs_of(((), (SHORT, SHORT))), [(0, 0), (0, 1), (1, 0), (1, 1)])

    def test_of_three_hands(self):
        wanted = [(0, 0, 0), (0, 0, 1), (0, 1, 0), (0, 1, 1), (1, 0, 0), (1, 0, 1), (1, 1, 0), (1, 1, 1)]
        self.assertEqual(inputs_of(GREAT), wanted)
        self.assertEqual(inputs_of(((), (SHORT, SHORT, SHORT))), wanted)

    def test_kinds(self):
        for house in HOUSES:
            told = inputs_of(house)
            self.assertIs(told.__class__, list)
            self.assertEqual(told, sorted(told))
            for inputs in told:
                self.assertIs(inputs.__class__, tuple)
                self.assertEqual([part.__class__ for part in inputs], [int] * len(house[1]))

    def test_a_new_list_each_time(self):
        two, three = (BOARDS, (SHORT, LONG)), GREAT
        for house in (two, three, two):
            once = inputs_of(house)
            kept = list(once)
            again = inputs_of(house)
            self.assertIsNot(once, again)
            once.reverse()
            once.append("more")
            self.assertEqual(again, kept)
            self.assertEqual(inputs_of(house), kept)
            again.clear()
            self.assertEqual(inputs_of(house), kept)

    def test_an_argument_by_its_name(self):
        self.assertEqual(inputs_of(house=((), (SHORT, SHORT))), [(0, 0), (0, 1), (1, 0), (1, 1)])


if __name__ == "__main__":
    unittest.main()
