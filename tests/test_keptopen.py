"""Promise [23], what is told, and of [3] what holds of houses of plain and of meek boards."""

import random
import unittest

from pactboards.book import add, first, plain, swap
from pactboards.errors import NotMeek, TooMany
from pactboards.graphs import stands_of
from pactboards.keptopen import kept_open
from pactboards.openchecks import holds_open
from pactboards.papers import paper_of

from samples import (
    ALWAYS_NOUGHT, EACH_ITS_OWN, FIRST, GOOD_BY_ONCE, GOOD_OF_THREE, GOOD_OF_TWO, ONCE, ONE, PLAIN, RACE_OF_THREE,
    RACE_OF_TWO, SWAP, WAITING, after, after_all, all_inputs, all_stands, any_house, first_stand, is_unsafe,
    kinds_within, led_from, meek_table, movers, near, near_race, one_of, own_round, plain_table, small_houses,
    some_houses, values, wide)

OWN = ((0, 1), (("settle", 0), ("settle", 1)))
NEVER = ((0, 0), (("do", 0, 0, (0,)),))
# Waits until the other has laid something, and takes that.
TAKER = ((0, 0), (("do", 0, 0, (1, 2, 0)), ("settle", 0), ("settle", 1)))
GIVER = ((0, 1), (("do", 0, 1, (2,)), ("do", 0, 2, (3,)), ("settle", 0), ("settle", 1)))
GIVEN = (((plain(3), 2),), (GIVER, TAKER))
# Only where it looks behind the other's laying it goes on for ever.
CAUGHT = (((PLAIN, 0),), (
    ((0, 0), (("do", 0, 2, (1,)), ("do", 0, 0, (0, 0)))),
    ((0, 0), (("do", 0, 0, (0, 1)), ("do", 0, 0, (1, 1))))))


def hand_of_settles(*values):
    return ((0, len(values) - 1), tuple(("settle", v) for v in values))


def with_boards(*tables):
    return tuple((table, 0) for table in tables)


def plain_house(source):
    return any_house(source, [plain_table(source) for k in range(one_of(source, 4))])


def meek_house(source):
    return any_house(source, [meek_table(source) for k in range(one_of(source, 3))], 3, 4)


class Looked(unittest.TestCase):
    def look_at(self, house, stands=None):
        """What is told is the first of the three forms, and as the document says; its word is told."""
        stands = stands or all_stands(house)
        told = kept_open(house, 2000)
        self.assertLessEqual(kinds_within(told), {tuple, int, str})
        self.assertIs(holds_open(house, told, 2000), True)
        if is_unsafe(house):
            self.assertEqual(told, ("unsafe", paper_of(house, 2000)))
        elif any(own_round(house, stand, k) for stand in stands for k in range(len(house[1]))):
            self.look_at_alone(house, *told)
        else:
            self.look_at_open(house, *told)
        return told[0]

    def walk(self, house, stand, turns):
        for hand in turns:
            self.assertIn(hand, movers(house, stand))
            stand = after(house, stand, hand)
        return stand

    def look_at_alone(self, house, word, inputs, turns, k):
        self.assertEqual(word, "alone")
        self.assertIn(inputs, all_inputs(house))
        self.assertIs(own_round(house, self.walk(house, first_stand(house, inputs), turns), k), True)

    def look_at_open(self, house, word, inputs, turns, again, ways):
        self.assertEqual(word, "open")
        self.assertIn(inputs, all_inputs(house))
        stand = self.walk(house, first_stand(house, inputs), turns)
        self.assertGreater(len(again), 0)
        self.assertEqual(self.walk(house, stand, again), stand)
        self.assertEqual(len(ways), len(turns) + len(again))
        here = first_stand(house, inputs)
        for hand, pair in zip(turns + again, ways):
            self.assertEqual(len(pair), 2)
            for value in (0, 1):
                self.assertIn(value, values(house, self.walk(house, here, pair[value])))
            here = after(house, here, hand)
        self.assertEqual(here, stand)


class Refused(unittest.TestCase):
    def refusal(self, house, *most):
        with self.assertRaises(NotMeek) as taken:
            kept_open(house, *most)
        return taken.exception.board

    def test_two_hands_at_boards_that_are_not_plain(self):
        for table in (SWAP, ONCE, FIRST, add(2), swap(3)):
            self.assertEqual(self.refusal((with_boards(table), (OWN, OWN))), 0)
            self.assertEqual(self.refusal((with_boards(PLAIN, table, ONE, table), (OWN, OWN))), 1)
            self.assertEqual(self.refusal((with_boards(PLAIN, PLAIN, ONE, table), (OWN, OWN))), 3)
        self.assertEqual(self.refusal(GOOD_OF_TWO), 0)
        self.assertEqual(self.refusal(GOOD_BY_ONCE), 0)

    def test_three_hands_at_boards_that_are_not_meek(self):
        self.assertEqual(self.refusal(GOOD_OF_THREE), 0)
        self.assertEqual(self.refusal((with_boards(SWAP, PLAIN, FIRST, first(3)), (OWN,) * 3)), 2)
        for table in (SWAP, ONCE, add(3), first(1)):
            self.assertEqual(kept_open((with_boards(table, PLAIN), (OWN,) * 3))[0], "unsafe")

    def test_ahead_of_too_many(self):
        boards, hands = wide(6)
        self.assertEqual(self.refusal((boards + ((FIRST, 0),), hands), 1), 3)
        self.assertEqual(self.refusal((with_boards(ONE, SWAP), (NEVER, OWN)), 1), 1)
        with self.assertRaises(TooMany) as taken:
            kept_open(wide(4)[:1] + ((NEVER,) * 3,), 0)
        self.assertEqual(taken.exception.most, 0)

    def test_too_many(self):
        for house in (RACE_OF_TWO, RACE_OF_THREE, EACH_ITS_OWN, GIVEN, CAUGHT):
            many = len(stands_of(house))
            told = kept_open(house, most=many)
            self.assertEqual(told, kept_open(house))
            for most in (many - 1, 1):
                with self.assertRaises(TooMany) as taken:
                    kept_open(house, most)
                self.assertEqual(taken.exception.most, most)

    def test_most_left_out_is_500(self):
        lines = tuple(("do", 0, 0, (n + 1,)) for n in range(499)) + (("do", 0, 0, (0,)),)
        still = ((0, 0), (("settle", 0),))
        self.assertEqual(kept_open((((ONE, 0),), (((0, 0), lines), still)))[0], "unsafe")
        longer = lines[:-1] + (("do", 0, 0, (500,)), ("do", 0, 0, (0,)))
        with self.assertRaises(TooMany) as taken:
            kept_open((((ONE, 0),), (((0, 0), longer), still)))
        self.assertEqual(taken.exception.most, 500)


class Unsafe(Looked):
    def test_without_boards(self):
        for hands in ((OWN, OWN), (OWN, OWN, OWN)):
            self.assertEqual(self.look_at(((), hands)), "unsafe")
        self.assertEqual(kept_open(EACH_ITS_OWN), ("unsafe", ("unlike", (0, 1), ())))
        self.assertEqual(kept_open(ALWAYS_NOUGHT), ("unsafe", ("strange", (1, 1), ())))
        self.assertEqual(kept_open(house=((), (hand_of_settles(1, 0), hand_of_settles(1, 1)))),
                         ("unsafe", ("unlike", (1, 0), ())))

    def test_ahead_of_a_round_alone(self):
        house = (with_boards(ONE), (OWN, OWN, NEVER))
        self.assertEqual(kept_open(house), ("unsafe", paper_of(house)))
        self.assertEqual(kept_open(house)[1][0], "unlike")


class Alone(Looked):
    def test_at_once(self):
        self.assertEqual(self.look_at(WAITING), "alone")
        self.assertEqual(self.look_at((with_boards(ONE), (NEVER, NEVER, NEVER))), "alone")
        self.assertEqual(self.look_at((with_boards(ONE), (NEVER, OWN, NEVER))), "alone")
        self.assertEqual(kept_open((with_boards(ONE), (OWN, NEVER)))[3], 1)
        self.assertEqual(kept_open((with_boards(ONE), (NEVER, OWN)))[3], 0)

    def test_by_some_inputs_only(self):
        # With 1 it waits for ever; with 0 it settles behind a deed.
        hand = ((0, 1), (("do", 0, 0, (2,)), ("do", 0, 0, (1,)), ("settle", 0)))
        house = (with_boards(ONE), (hand, NEVER))
        self.assertEqual(self.look_at(house), "alone")
        house = (with_boards(ONE), (hand, hand))
        self.assertEqual(self.look_at(house), "alone")
        self.assertIn(1, kept_open(house)[1])

    def test_waiting_for_another(self):
        self.assertEqual(self.look_at(GIVEN), "alone")
        self.assertEqual(kept_open(GIVEN)[3], 1)

    def test_only_behind_turns(self):
        # Each lays something of its own first, and then waits until the other's board is empty: alone it is, at first.
        mutual = (with_boards(PLAIN, PLAIN), tuple(
            ((0, 1), (("do", own, 2, (2,)), ("do", own, 2, (3,)), ("do", other, 0, (4, 2)), ("do", other, 0, (5, 3)),
                      ("settle", 0), ("settle", 1))) for own, other in ((0, 1), (1, 0))))
        self.assertFalse(any(own_round(mutual, first_stand(mutual, inputs), k)
                             for inputs in all_inputs(mutual) for k in (0, 1)))
        self.assertEqual(self.look_at(mutual), "alone")
        self.assertGreater(len(kept_open(mutual)[2]), 0)

    def test_where_no_hand_ever_settles(self):
        self.assertEqual(self.look_at(CAUGHT), "alone")


class Open(Looked):
    def test_two_hands_at_plain_boards(self):
        self.assertEqual(self.look_at(RACE_OF_TWO), "open")

    def test_three_hands_at_a_meek_board(self):
        self.assertEqual(self.look_at(RACE_OF_THREE), "open")

    def test_the_first_open_begin_is_not_the_first_begin(self):
        for house in (RACE_OF_TWO, RACE_OF_THREE):
            self.assertEqual(len(set(kept_open(house)[1])), 2)

    def test_turns_ahead_of_the_round(self):
        # A deed ahead on a board of its own: the begin isn't come to again.
        hands = []
        for begins, lines in RACE_OF_TWO[1]:
            more = (("do", 2, 0, (begins[0],)), ("do", 2, 0, (begins[1],)))
            hands.append(((len(lines), len(lines) + 1), lines + more))
        house = (RACE_OF_TWO[0] + ((ONE, 0),), tuple(hands))
        self.assertEqual(self.look_at(house), "open")
        self.assertGreater(len(kept_open(house)[2]), 1)

    def test_a_round_of_stands_that_are_not_open(self):
        # Ahead of the race each lays its number, and looks whether the other did so, too: then it does it again. So
        # there are rounds by any inputs, also where all begin with 0.
        hands = []
        for k, (begins, lines) in enumerate(RACE_OF_TWO[1]):
            more = []
            for n, goal in enumerate(begins):
                at = len(lines) + 2 * n
                more += [("do", 2, 1 + k, (at + 1,)), ("do", 2, 0, (goal, at) if k == 0 else (at, goal))]
            hands.append(((len(lines), len(lines) + 2), lines + tuple(more)))
        house = (RACE_OF_TWO[0] + ((PLAIN, 0),), tuple(hands))
        self.assertEqual(paper_of(house)[:2], ("round", (0, 0)))
        self.assertEqual(self.look_at(house), "open")

    def test_a_way_for_each_stand(self):
        word, inputs, turns, again, ways = kept_open(RACE_OF_TWO)
        self.assertEqual(len(ways), len(turns) + len(again))
        # One stand further, behind coming back, there would be one more.
        come = [after_all(RACE_OF_TWO, first_stand(RACE_OF_TWO, inputs), (turns + again)[:k])
                for k in range(len(ways) + 1)]
        self.assertEqual(come[-1], come[len(turns)])
        for stand in come:
            self.assertEqual(set().union(*[values(RACE_OF_TWO, there) for there in led_from(RACE_OF_TWO, stand)]),
                             {0, 1})


class Drawn(Looked):
    def count(self, drawn):
        seen = {"unsafe": 0, "alone": 0, "open": 0}
        for house, stands in drawn:
            seen[self.look_at(house, stands)] += 1
        return seen

    def test_plain_boards(self):
        seen = self.count(small_houses(500, 230, plain_house, 150))
        self.assertGreater(min(seen["unsafe"], seen["alone"]), 30, seen)

    def test_three_hands_at_meek_boards(self):
        seen = self.count(small_houses(300, 231, meek_house, 150))
        self.assertGreater(min(seen["unsafe"], seen["alone"]), 10, seen)

    def test_races_that_are_bent(self):
        seen = self.count(small_houses(400, 232, near_race, 300))
        self.assertGreater(min(seen.values()), 10, seen)

    def test_the_fourth_paper_is_never_told(self):
        for make in (plain_house, meek_house, near_race):
            for house in some_houses(150, 233, make):
                try:
                    self.assertNotEqual(paper_of(house)[0], "good")
                except TooMany:
                    pass

    def test_the_same_each_time(self):
        for house in (RACE_OF_TWO, RACE_OF_THREE, GIVEN, EACH_ITS_OWN):
            self.assertEqual(kept_open(house), kept_open(house))

    def test_many_stands(self):
        # Three hands that go on by themselves: each stand is asked of each hand.
        self.assertEqual(kept_open(wide(12), 1728)[0], "alone")

    def test_a_long_way_ahead(self):
        source = random.Random(234)
        for house in (near(source, (RACE_OF_TWO,)), RACE_OF_THREE):
            boards, hands = house
            begins, lines = hands[0]
            longer = list(lines)
            for k in range(60):
                longer.append(("do", len(boards), 0, (len(longer) + 1,)))
            longer.append(("do", len(boards), 0, (begins[0],)))
            house = (boards + ((ONE, 0),), (((len(lines), begins[1]), tuple(longer)),) + hands[1:])
            self.assertIn(kept_open(house, 4000)[0], ("open", "alone", "unsafe"))
            self.assertIs(holds_open(house, kept_open(house, 4000), 4000), True)


if __name__ == "__main__":
    unittest.main()
