"""Promises [26] and [28]: rebuilt houses, and how many deeds one deed takes at most."""

import unittest

from pactboards.book import add, first, pact_first, pact_of, plain, swap
from pactboards.checks import holds
from pactboards.errors import NoHouse, NotGood, TooMany
from pactboards.follow import follow
from pactboards.houses import look
from pactboards.papers import paper_of
from pactboards.rebuild import bound, rebuilt
from pactboards.tables import is_plain

from samples import (
    ALWAYS_NOUGHT, COUNT, EACH_ITS_OWN, GOOD_BY_ONCE, GOOD_OF_THREE, GOOD_OF_TWO, ONE, PLAIN, PUTS, RACE_OF_THREE,
    RACE_OF_TWO, WAITING, after, all_inputs, all_stands, chain, deeds_left, first_stand, good_house, is_unsafe,
    kinds_within, most_there, movers, slow_good, small_houses, wide)

ENOUGH = 20000


def is_first_table(table):
    """Whether it is first(n) for some n, from 1 on."""
    n = len(table) - 1
    if n < 1:
        return False
    return table == tuple(tuple((s or v, s or v) for v in range(1, n + 1)) for s in range(n + 1))


def good_houses(many, seed, most=150):
    yield from (pact_first(2), pact_first(3), pact_of(swap(2)), pact_of(add(3)), GOOD_BY_ONCE)
    yield from [house for house, stands in small_houses(many, seed, good_house, most)]


def most_tries(house, board, new, origins):
    """Over all runs in the new house: the most deeds of a hand on lines that stand for one deed on the board until the
    one of which a turn is told. Each stand comes with how many each hand has done of its own."""
    worst = 0
    waiting = [(first_stand(new, inputs), (0,) * len(new[1]), inputs, ()) for inputs in all_inputs(new)]
    known = {entry[:2] for entry in waiting}
    for stand, counts, inputs, turns in waiting:
        ahead = follow(house, board, new, origins, inputs, turns)
        for hand in movers(new, stand):
            line = house[1][hand][1][origins[hand][stand[0][hand]]]
            many = counts[hand] + 1 if line[1] == board else 0
            worst = max(worst, many)
            if len(follow(house, board, new, origins, inputs, turns + (hand,))) > len(ahead):
                many = 0
            entry = (after(new, stand, hand), counts[:hand] + (many,) + counts[hand + 1:])
            if entry not in known:
                known.add(entry)
                waiting.append(entry + (inputs, turns + (hand,)))
    return worst


class Rebuilt(unittest.TestCase):
    def look_at(self, house, board, most=ENOUGH):
        new, origins = told = rebuilt(house, board, most)
        self.assertEqual(told, rebuilt(house, board, most))
        self.assertLessEqual(kinds_within(told), {tuple, int, str})
        self.assertIs(look(new), True)
        self.assertEqual(len(new[1]), len(house[1]))
        others = house[0][:board] + house[0][board + 1:]
        self.assertEqual(new[0][:len(others)], others)
        self.assertLessEqual(len(new[0]) - len(others), bound(house, board, most))
        for table, state in new[0][len(others):]:
            self.assertTrue(is_plain(table) or is_first_table(table))
        self.assertEqual(len(origins), len(new[1]))
        for old, hand, stands_for in zip(house[1], new[1], origins):
            self.look_at_hand(old, hand, stands_for)
        self.assertEqual(paper_of(new, ENOUGH)[0], "good")
        return told

    def look_at_hand(self, old, hand, stands_for):
        self.assertEqual(len(stands_for), len(hand[1]))
        self.assertEqual(tuple(stands_for[n] for n in hand[0]), old[0])
        for n, line in zip(stands_for, hand[1]):
            self.assertIn(n, range(len(old[1])))
            self.assertEqual(line[0], old[1][n][0])
            if line[0] == "settle":
                self.assertEqual(line, old[1][n])

    def test_is_first_table(self):
        for n in range(1, 7):
            self.assertTrue(is_first_table(first(n)))
        for table in (ONE, PLAIN, COUNT, swap(3), plain(3), first(2)[1:]):
            self.assertFalse(is_first_table(table))

    def test_each_board_of_the_good_houses(self):
        for hands in (2, 3):
            self.look_at(pact_first(hands), 0)
        for table in (swap(2), swap(4), add(2), add(4)):
            house = pact_of(table)
            for board in range(3):
                self.look_at(house, board)

    def test_with_deeds_on_further_boards(self):
        many = 0
        for house in good_houses(200, 260):
            self.assertFalse(is_unsafe(house))
            for board in range(len(house[0])):
                self.look_at(house, board)
                many += 1
        self.assertGreater(many, 400)

    def test_good_by_the_documents_words(self):
        for house in good_houses(15, 261, 60):
            for board in range(len(house[0])):
                new = rebuilt(house, board)[0]
                stands = all_stands(new)
                if stands is not None and len(stands) < 300:
                    self.assertFalse(is_unsafe(new))
                    self.assertIsNotNone(deeds_left(new, stands))
                    self.assertIs(holds(new, ("good", deeds_left(new, stands))), True)

    def test_a_board_on_which_no_deed_is_ever_done(self):
        boards, hands = GOOD_OF_TWO
        for board in (0, 1):
            house = (boards + ((COUNT, 2),), hands) if board else (((COUNT, 2),) + boards, tuple(
                (begins, tuple(line if line[0] == "settle" else ("do", 1) + line[2:] for line in lines))
                for begins, lines in hands))
            new, origins = self.look_at(house, board)
            self.assertEqual(bound(house, board), 0)
            self.assertEqual(len(all_stands(new)), len(all_stands(house)))

    def test_a_board_whose_deeds_only_stand_on_lines_that_are_not_come_to(self):
        begins, lines = PUTS
        # Answer 0 never comes; line 4 is come to by nothing else.
        lines = tuple(line[:3] + ((4,) + line[3][1:],) if line[0] == "do" else line for line in lines)
        hand = (begins, lines + (("do", 1, 0, (4, 4, 4, 4)),))
        house = (GOOD_OF_TWO[0] + ((COUNT, 1),), (hand, hand))
        new, origins = self.look_at(house, 1)
        self.assertEqual(bound(house, 1), 0)
        self.look_at(house, 0)

    def test_a_board_on_which_only_one_hand_does_deeds(self):
        begins, lines = PUTS
        busy = ((4, 4), lines + (("do", 1, 0, (5,) * 4), ("do", 1, 0, (6,) * 4), ("do", 1, 0, (0, 0, 0, 1)), ))
        for hands in ((busy, PUTS), (PUTS, busy), (busy, PUTS, PUTS)):
            for state in range(4):
                house = (GOOD_OF_TWO[0] + ((COUNT, state),), hands)
                if paper_of(house)[0] == "good":
                    self.look_at(house, 1)
                    self.assertEqual(bound(house, 1), 3)

    def test_answers_decide_where_it_goes_on(self):
        # Two deeds on a counter, of three hands: by the answer one more deed, or none.
        begins, lines = PUTS
        hand = ((4, 5), lines + (("do", 1, 0, (0, 6, 0, 6)), ("do", 1, 0, (1, 1, 7, 1)),
                                 ("do", 1, 0, (0, 0, 0, 0)), ("do", 1, 0, (1, 1, 1, 1))))
        for state in range(4):
            house = (GOOD_OF_THREE[0] + ((COUNT, state),), (hand, hand))
            self.assertEqual(paper_of(house)[0], "good")
            for board in (0, 1):
                self.look_at(house, board)

    def test_rebuilt_again(self):
        for house in (pact_first(2), pact_first(3), pact_of(swap(2)), GOOD_BY_ONCE):
            for board in range(len(house[0])):
                new = rebuilt(house, board)[0]
                for other in range(len(new[0])):
                    newer = self.look_at(new, other)[0]
                    if len(house[1]) == 2:
                        self.look_at(newer, len(newer[0]) - 1)
                        self.look_at(newer, 0)

    def test_all_boards_one_behind_the_other(self):
        house = pact_of(add(2))
        for k in range(3):
            house = self.look_at(house, 0)[0]
        for table, state in house[0]:
            self.assertTrue(is_plain(table) or is_first_table(table))

    def test_fewer_deeds_in_any_run_than_the_bound(self):
        # Either hand does one more deed where it was the first one: so there are three in all, though each may do two.
        # Deed 0 is hand 0's, deed 1 the other's; what was done is told by the state, 7 where it is all the same.
        leads = ((1, 2), (4, 3), (5, 6), (7, 7), (7, 7), (7, 7), (7, 7), (7, 7))
        table = tuple(tuple((goal, int(s == 0)) for goal in row) for s, row in enumerate(leads))
        begins, lines = PUTS
        hands = tuple(((4, 5), lines + (("do", 1, k, (0, 6)), ("do", 1, k, (1, 7)), ("do", 1, k, (0, 0)),
                                        ("do", 1, k, (1, 1)))) for k in (0, 1))
        house = (GOOD_OF_TWO[0] + ((table, 0),), hands)
        self.assertEqual(bound(house, 1), 4)
        new, origins = self.look_at(house, 1)
        self.assertLessEqual(most_tries(house, 1, new, origins), 3)

    def test_many_deeds(self):
        # Sixty deeds of one hand ahead of the pact.
        begins, lines = PUTS
        more = tuple(("do", 1, 0, (n + 1,) * 4) for n in range(4, 64)) + (("do", 1, 0, (0,) * 4),)
        house = (GOOD_OF_TWO[0] + ((COUNT, 0),), (((4, 1), lines + more), PUTS))
        self.assertEqual(paper_of(house)[0], "good")
        self.assertEqual(bound(house, 1), 61)
        self.look_at(house, 1)

    def test_nothing_handed_in_is_needed_later(self):
        told = rebuilt(GOOD_BY_ONCE, 0)
        rebuilt(GOOD_OF_THREE, 0)
        self.assertEqual(rebuilt(GOOD_BY_ONCE, 0), told)

    def test_arguments_by_their_names(self):
        self.assertEqual(rebuilt(most=14, board=0, house=GOOD_OF_TWO), rebuilt(GOOD_OF_TWO, 0))


class Refused(unittest.TestCase):
    def refusal(self, kind, *told):
        taken = []
        for function in (rebuilt, bound):
            with self.assertRaises(kind) as refused:
                function(*told)
            taken.append(refused.exception)
        return taken

    def test_a_board_that_is_not_there(self):
        for house in (GOOD_OF_TWO, GOOD_BY_ONCE, EACH_ITS_OWN, WAITING):
            many = len(house[0])
            for board in (-1, -2, -many, -many - 1, many, many + 1, 1000):
                if not 0 <= board < many:
                    for most in (500, 1):
                        for refused in self.refusal(NoHouse, house, board, most):
                            self.assertEqual(refused.place, ("board", board))

    def test_ahead_of_too_many(self):
        for refused in self.refusal(NoHouse, wide(9), 3):
            self.assertEqual(refused.place, ("board", 3))

    def test_too_many(self):
        for house in (GOOD_OF_TWO, GOOD_BY_ONCE, WAITING, RACE_OF_TWO, chain(7)):
            many = len(all_stands(house))
            for most in range(1, many):
                for refused in self.refusal(TooMany, house, 0, most):
                    self.assertEqual(refused.most, most)
        self.assertEqual(bound(GOOD_OF_TWO, 0, 14), 2)

    def test_most_left_out_is_500(self):
        house = slow_good(0, 162)
        self.assertEqual(len(all_stands(house)), 500)
        self.assertEqual((bound(house, 0), bound(house, 1)), (2, 162))
        self.assertEqual(len(rebuilt(house, 0)[0][1]), 2)
        house = slow_good(1, 161)
        self.assertEqual(len(all_stands(house)), 501)
        for refused in self.refusal(TooMany, house, 0):
            self.assertEqual(refused.most, 500)
        self.assertEqual(bound(house, 0, 501), 2)

    def test_not_good(self):
        unlike = (((PLAIN, 0),), EACH_ITS_OWN[1])
        strange = (((PLAIN, 0),), ALWAYS_NOUGHT[1])
        for house in (unlike, strange, WAITING, RACE_OF_TWO, RACE_OF_THREE):
            for board in range(len(house[0])):
                self.refusal(NotGood, house, board)


class Bound(unittest.TestCase):
    def test_written_out(self):
        self.assertEqual(bound(GOOD_OF_TWO, 0), 2)
        self.assertEqual(bound(GOOD_OF_THREE, 0), 3)
        self.assertEqual([bound(GOOD_BY_ONCE, board) for board in range(3)], [2, 2, 2])

    def test_the_sum_over_all_hands(self):
        for house in good_houses(50, 262):
            for board in range(len(house[0])):
                wanted = sum(most_there(house, hand, board) for hand in range(len(house[1])))
                self.assertEqual(bound(house, board), wanted)
                self.assertIs(bound(house, board).__class__, int)

    def test_no_deed_takes_more(self):
        tight = 0
        houses = [pact_first(2), pact_first(3), pact_of(swap(2))]
        houses += [house for house, stands in small_houses(80, 263, good_house, 80)]
        for house in houses:
            for board in range(len(house[0])):
                new, origins = rebuilt(house, board)
                stands = all_stands(new)
                if stands is not None and len(stands) < 250:
                    worst = most_tries(house, board, new, origins)
                    self.assertLessEqual(worst, bound(house, board))
                    tight += worst == bound(house, board) > 1
        self.assertGreater(tight, 20)

    def test_arguments_by_their_names(self):
        self.assertEqual(bound(most=46, board=0, house=GOOD_BY_ONCE), 2)


if __name__ == "__main__":
    unittest.main()
