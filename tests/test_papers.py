"""Promises [15] and [16], and of [3] what holds of papers."""

import random
import unittest

from pactboards.checks import holds
from pactboards.errors import TooMany
from pactboards.papers import is_safe, paper_of
from pactboards.tables import is_meek, is_plain

from samples import (
    ALWAYS_NOUGHT, EACH_ITS_OWN, GOOD_BY_ONCE, GOOD_OF_THREE, GOOD_OF_TWO, ONE, PLAIN, SWAP, WAITING, after,
    all_inputs, all_stands, any_house, any_table, chain, deed_answers, deeds_left, first_stand, house_of_words,
    kinds_within, movers, near_good, one_of, onward_house, small_houses, spread, strange, unlike, values, word_of,
    wrong_turns)

ZERO = ((0, 0), (("settle", 0),))
OWN = ((0, 1), (("settle", 0), ("settle", 1)))
# Both go on for ever, and never settle.
ENDLESS = (((ONE, 0),), (((0, 0), (("do", 0, 0, (0,)),)),) * 2)


def sample(many=80, most=60):
    for seed, make in ((160, any_house), (161, house_of_words), (162, near_good), (163, onward_house)):
        yield from small_houses(many, seed, make, most)


def long_way(many):
    """Hand 0 settles on its own behind many deeds, hand 1 at once: unlike behind so many turns."""
    lines = tuple(("do", 0, 0, (n + 1,)) for n in range(many)) + (("settle", 0),)
    return (((ONE, 0),), (((0, many), lines), OWN))


class Safe(unittest.TestCase):
    def test_written_out(self):
        for house in (GOOD_OF_TWO, GOOD_OF_THREE, GOOD_BY_ONCE, ENDLESS, WAITING):
            self.assertIs(is_safe(house), True)
        for house in (EACH_ITS_OWN, ALWAYS_NOUGHT, chain(5)):
            self.assertIs(is_safe(house), False)

    def test_unlike_settles_in_one_stand(self):
        # Of two hands and of three, whichever two they are.
        self.assertIs(is_safe(((), (OWN, OWN))), False)
        never = ((0, 0), (("do", 0, 0, (0,)),))
        for hands in ((OWN, OWN, never), (OWN, never, OWN), (never, OWN, OWN)):
            self.assertIs(is_safe((((ONE, 0),), hands)), False)
        for hands in ((OWN, never, never), (never, OWN, never), (never, never, OWN)):
            self.assertIs(is_safe((((ONE, 0),), hands)), True)

    def test_settled_unlike_only_behind_turns(self):
        # Without the board each settles on its own, which is another's begin.
        lines = (("do", 0, 0, (2,)), ("do", 0, 0, (3,)), ("settle", 0), ("settle", 1))
        self.assertIs(is_safe((((ONE, 0),), (((0, 1), lines),) * 2)), False)

    def test_a_settle_on_what_is_in_none_of_the_inputs(self):
        turned = ((1, 0), (("settle", 0), ("settle", 1)))
        never = ((0, 0), (("do", 0, 0, (0,)),))
        self.assertIs(is_safe((((ONE, 0),), (turned, never))), False)
        self.assertIs(is_safe((((ONE, 0),), (never, turned))), False)

    def test_a_stand_that_other_inputs_lead_to_too(self):
        # All inputs begin at one stand; 0 is in all of them but one.
        never = ((0, 0), (("do", 0, 0, (0,)),))
        for value, inputs in ((0, (1, 1)), (1, (0, 0))):
            settler = ((0, 0), (("do", 0, 0, (1,)), ("settle", value)))
            house = (((ONE, 0),), (settler, never))
            self.assertIs(is_safe(house), False)
            self.assertEqual(paper_of(house), ("strange", inputs, (0,)))

    def test_of_any_house(self):
        told = {True: 0, False: 0}
        for house, stands in sample():
            wanted = wrong_turns(house, unlike) is None and wrong_turns(house, strange) is None
            self.assertIs(is_safe(house), wanted, house)
            told[wanted] += 1
        self.assertGreater(min(told.values()), 50)

    def test_arguments_by_their_names(self):
        self.assertIs(is_safe(most=14, house=GOOD_OF_TWO), True)
        self.assertIs(is_safe(most=4, house=EACH_ITS_OWN), False)


class Papers(unittest.TestCase):
    def walked(self, house, inputs, turns):
        """The stand behind turns, each of which is a free hand's."""
        self.assertIn(inputs, all_inputs(house))
        stand = first_stand(house, inputs)
        for hand in turns:
            self.assertIn(hand, movers(house, stand), house)
            stand = after(house, stand, hand)
        return stand

    def as_told(self, house, stands, paper):
        word = word_of(house, stands)
        self.assertEqual(paper[0], word, house)
        self.assertEqual(len(paper), {"unlike": 3, "strange": 3, "round": 4, "good": 2}[word])
        if word == "good":
            self.assertIs(paper[1].__class__, dict)
            self.assertEqual(paper[1], deeds_left(house, stands))
            return
        self.assertEqual(kinds_within(paper) - {str}, {tuple, int})
        inputs, turns = paper[1:3]
        stand = self.walked(house, inputs, turns)
        if word == "round":
            self.assertGreater(len(paper[3]), 0)
            self.assertEqual(self.walked(house, inputs, turns + paper[3]), stand)
        else:
            wrong = {"unlike": unlike, "strange": strange}[word]
            self.assertTrue(wrong(inputs, values(house, stand)), house)
            self.assertEqual(len(turns), wrong_turns(house, wrong), house)

    def test_unlike(self):
        self.assertEqual(paper_of(EACH_ITS_OWN)[0], "unlike")
        self.assertIn(paper_of(EACH_ITS_OWN)[1:], (((0, 1), ()), ((1, 0), ())))
        for many in (1, 2, 9):
            self.as_told(long_way(many), all_stands(long_way(many)), paper_of(long_way(many)))

    def test_unlike_at_a_begin_and_behind_turns(self):
        # By (0, 0) unlike only behind two turns, by (1, 0) at once.
        lines = (("do", 0, 0, (1,)), ("do", 0, 0, (2,)), ("settle", 1), ("settle", 1))
        house = (((ONE, 0),), (((0, 3), lines), ZERO))
        self.assertIn(paper_of(house), (("unlike", (1, 0), ()), ("unlike", (1, 1), ())))

    def test_strange(self):
        self.assertEqual(paper_of(ALWAYS_NOUGHT), ("strange", (1, 1), ()))
        self.assertEqual(paper_of(chain(5)), ("strange", (1, 1), ()))
        # Of both ways to a strange settle the shorter.
        lines = (("do", 0, 0, (1,)), ("do", 0, 0, (2,)), ("settle", 1), ("do", 0, 0, (4,)), ("settle", 0))
        never = ((0, 0), (("do", 0, 0, (0,)),))
        self.assertEqual(paper_of((((ONE, 0),), (((0, 3), lines), never))), ("strange", (1, 1), (0,)))
        self.assertEqual(paper_of((((ONE, 0),), (never, ((1, 3), lines)))), ("strange", (0, 0), (1,)))
        self.assertEqual(paper_of((((ONE, 0),), (never, ((2, 3), lines)))), ("strange", (0, 0), ()))

    def test_round(self):
        told = paper_of(ENDLESS)
        self.assertEqual(told[0], "round")
        self.as_told(ENDLESS, all_stands(ENDLESS), told)
        late = ((0, 0), (("do", 0, 0, (1,)), ("do", 0, 0, (2,)), ("do", 0, 0, (1,))))
        house = (((ONE, 0),), (late, late))
        self.assertEqual(len(paper_of(house)), 4)
        self.as_told(house, all_stands(house), paper_of(house))

    def test_good(self):
        for house in (GOOD_OF_TWO, GOOD_OF_THREE, GOOD_BY_ONCE):
            self.assertEqual(paper_of(house), ("good", deeds_left(house, all_stands(house))))

    def test_the_order_in_which_they_go(self):
        turned = ((1, 0), OWN[1])
        never = ((0, 0), (("do", 0, 0, (0,)),))
        board = ((ONE, 0),)
        # Unlike, strange, and a round.
        self.assertEqual(paper_of((board, (turned, turned, never)))[0], "unlike")
        # Unlike only behind turns, strange at once.
        late = ((0, 0), (("do", 0, 0, (1,)), ("do", 0, 0, (2,)), ("settle", 1)))
        self.assertEqual(paper_of((board, (ZERO, late)))[0], "unlike")
        # Strange, and a round; strange behind turns, a round at once.
        self.assertEqual(paper_of((board, (turned, never)))[0], "strange")
        self.assertEqual(paper_of((board, (never, late))), ("strange", (0, 0), (1, 1)))
        self.assertEqual(paper_of((board, (OWN, never)))[0], "round")

    def test_of_any_house(self):
        words = {}
        for house, stands in sample(150):
            paper = paper_of(house)
            self.as_told(house, stands, paper)
            self.assertEqual(paper_of(house), paper)
            self.assertIs(holds(house, paper), True)
            key = (paper[0],) if paper[0] == "good" else (paper[0], len(paper[2]) > 0)
            words[key] = words.get(key, 0) + 1
        for word in ("unlike", "strange", "round"):
            for behind_turns in (True, False):
                self.assertGreater(words[(word, behind_turns)], 5, words)
        self.assertGreater(words[("good",)], 20)

    def test_the_numbers_are_the_askers_own(self):
        once = paper_of(GOOD_OF_TWO)
        kept = dict(once[1])
        once[1].clear()
        self.assertEqual(paper_of(GOOD_OF_TWO), ("good", kept))

    def test_great_houses_are_answered_at_once(self):
        self.assertEqual(paper_of(spread(7))[:2], ("strange", (1, 1, 1)))
        paper = paper_of(long_way(1300), 4000)
        self.assertEqual((paper[0], len(paper[2])), ("unlike", 0))
        lines = tuple(("do", 0, 0, (n + 1,)) for n in range(2000)) + (("do", 0, 0, (1000,)),)
        house = (((ONE, 0),), (((0, 0), lines), OWN))
        paper = paper_of(house, 4002)
        self.assertEqual((paper[0], paper[2], paper[3]), ("round", (0,) * 1000, (0,) * 1001))
        self.assertIs(holds(house, paper, 4002), True)

    def test_arguments_by_their_names(self):
        self.assertEqual(paper_of(most=4, house=EACH_ITS_OWN)[0], "unlike")


class Most(unittest.TestCase):
    def test_too_many_goes_ahead_of_all_else(self):
        houses = (GOOD_OF_TWO, GOOD_OF_THREE, GOOD_BY_ONCE, EACH_ITS_OWN, long_way(4), chain(4))
        for house in houses:
            many = len(all_stands(house))
            for ask in (is_safe, paper_of):
                ask(house, many)
                for most in (many - 1, 1):
                    with self.assertRaises(TooMany) as taken:
                        ask(house, most)
                    self.assertEqual(taken.exception.most, most)

    def test_left_out_it_is_500(self):
        for ask in (is_safe, paper_of):
            ask(chain(500))
            with self.assertRaises(TooMany) as taken:
                ask(chain(501))
            self.assertEqual(taken.exception.most, 500)


def table_of(source, is_wanted):
    while True:
        table = any_table(source, 3, 3, 2)
        if is_wanted(table):
            return table


def hopeful_hand(source, tables):
    """A hand of a few deeds that lead anywhere onward, or anywhere, and of both settles."""
    many = 1 + one_of(source, 4)
    onward = one_of(source, 3) > 0
    lines = []
    for n in range(many):
        b = one_of(source, len(tables))
        d = one_of(source, len(tables[b][0]))
        least = n + 1 if onward else 0
        goals = tuple(least + one_of(source, many + 2 - least) for told in range(deed_answers(tables[b], d)))
        lines.append(("do", b, d, goals))
    return ((one_of(source, many), one_of(source, many)), tuple(lines) + (("settle", 0), ("settle", 1)))


class Promise(unittest.TestCase):
    def never_good(self, seed, hands, is_wanted, many=150):
        source = random.Random(seed)
        asked = 0
        for k in range(many):
            tables = [table_of(source, is_wanted) for b in range(1 + one_of(source, 2))]
            boards = tuple((table, one_of(source, len(table))) for table in tables)
            house = (boards, tuple(hopeful_hand(source, tables) for h in range(hands)))
            stands = all_stands(house, 300)
            if stands is not None and len(stands) <= 300:
                paper = paper_of(house)
                self.assertNotEqual(paper[0], "good", house)
                self.assertIs(holds(house, paper), True)
                asked += 1
        self.assertGreater(asked, many // 2)

    def test_plain_boards_make_no_good_house(self):
        self.never_good(31, 2, is_plain)
        self.never_good(32, 3, is_plain)

    def test_meek_boards_make_no_good_house_for_three(self):
        self.never_good(33, 3, is_meek)

    def test_the_programs_of_a_good_house_by_a_plain_board(self):
        # The look is answered 0 or 1, as the board of one deed is, but to both alike.
        for state in range(2):
            house = (((PLAIN, state),) + GOOD_BY_ONCE[0][1:], GOOD_BY_ONCE[1])
            self.assertEqual(paper_of(house)[0], "unlike")

    def test_a_meek_board_makes_a_good_house_for_two_but_none_for_three(self):
        # Deed 1 lays 1 and is answered what was there: so is the one deed of the good house's own board.
        hands = [(hand[0], tuple(line[:2] + (1,) + line[3:] if line[:2] == ("do", 0) else line for line in hand[1]))
                 for hand in GOOD_BY_ONCE[1]]
        boards = ((SWAP, 0),) + GOOD_BY_ONCE[0][1:]
        self.assertEqual((is_meek(SWAP), is_plain(SWAP)), (True, False))
        self.assertEqual(paper_of((boards, tuple(hands)))[0], "good")
        for third in hands:
            self.assertNotEqual(paper_of((boards, tuple(hands) + (third,)))[0], "good")


if __name__ == "__main__":
    unittest.main()
