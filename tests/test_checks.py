"""Promise [17]: the checker of papers."""

import copy
import itertools
import random
import unittest

from pactboards.checks import holds
from pactboards.errors import TooMany
from pactboards.papers import paper_of

from samples import (
    ALWAYS_NOUGHT, EACH_ITS_OWN, GOOD_BY_ONCE, GOOD_OF_THREE, GOOD_OF_TWO, ONE, after, all_inputs, all_stands,
    any_house, deeds_left, first_stand, house_of_words, movers, near_good, onward_house, small_houses, strange, unlike,
    values, wrong_turns)

OWN = ((0, 1), (("settle", 0), ("settle", 1)))
NEVER = ((0, 0), (("do", 0, 0, (0,)),))
# Each settles on its own behind two deeds.
SLOW = (((ONE, 0),), (((0, 3), (
    ("do", 0, 0, (1,)), ("do", 0, 0, (2,)), ("settle", 0), ("do", 0, 0, (4,)), ("do", 0, 0, (5,)), ("settle", 1))),) * 2)
# Each settles, behind a deed, on what it did not begin with.
TURNED = (((ONE, 0),), (((1, 0), (("do", 0, 0, (2,)), ("do", 0, 0, (3,)), ("settle", 0), ("settle", 1))),) * 2)
# Hand 0 does a deed, then goes round two more; hand 1 settles on its own.
GOING = (((ONE, 0),), (((0, 0), (("do", 0, 0, (1,)), ("do", 0, 0, (2,)), ("do", 0, 0, (1,)))), OWN))


def stand_behind(house, inputs, turns):
    """The stand behind turns, or None where inputs or turns are none."""
    if inputs not in all_inputs(house):
        return None
    stand = first_stand(house, inputs)
    for hand in turns:
        if hand not in movers(house, stand):
            return None
        stand = after(house, stand, hand)
    return stand


def wanted(house, stands, paper):
    """By the words of the promise."""
    if paper[0] == "good":
        numbers = paper[1]
        return (wrong_turns(house, unlike) is None and wrong_turns(house, strange) is None
                and all(stand in numbers and numbers[stand] >= 0 for stand in stands)
                and all(numbers[after(house, stand, hand)] < numbers[stand]
                        for stand in stands for hand in movers(house, stand)))
    inputs, turns = paper[1:3]
    stand = stand_behind(house, inputs, turns)
    if stand is None:
        return False
    if paper[0] == "round":
        return len(paper[3]) > 0 and stand_behind(house, inputs, turns + paper[3]) == stand
    return {"unlike": unlike, "strange": strange}[paper[0]](inputs, values(house, stand))


class Checked(unittest.TestCase):
    def yes(self, house, *paper):
        self.assertIs(holds(house, paper), True, paper)

    def no(self, house, *paper):
        self.assertIs(holds(house, paper), False, paper)


class Told(Checked):
    def test_each_paper_that_is_told(self):
        words = set()
        for seed, make in ((170, any_house), (171, house_of_words), (172, near_good), (173, onward_house)):
            for house, stands in small_houses(150, seed, make, 200):
                paper = paper_of(house)
                words.add(paper[0])
                self.assertIs(holds(house, paper), True, house)
        self.assertEqual(words, {"unlike", "strange", "round", "good"})

    def test_a_told_paper_of_another_house(self):
        houses = (GOOD_OF_TWO, GOOD_BY_ONCE, SLOW, TURNED, GOING, EACH_ITS_OWN, ALWAYS_NOUGHT)
        for one, other in itertools.product(houses, repeat=2):
            paper = paper_of(other)
            self.assertEqual(holds(one, paper), wanted(one, all_stands(one), paper), (one, paper))


class Turns(Checked):
    def test_unlike(self):
        self.yes(EACH_ITS_OWN, "unlike", (0, 1), ())
        self.yes(EACH_ITS_OWN, "unlike", (1, 0), ())
        self.no(EACH_ITS_OWN, "unlike", (0, 0), ())
        self.no(EACH_ITS_OWN, "unlike", (1, 1), ())
        for turns in itertools.permutations((0, 0, 1, 1)):
            self.yes(SLOW, "unlike", (0, 1), turns)
            self.yes(SLOW, "unlike", (1, 0), turns)
            self.no(SLOW, "unlike", (0, 0), turns)
            for short in range(4):
                self.no(SLOW, "unlike", (0, 1), turns[:short])

    def test_strange(self):
        self.yes(ALWAYS_NOUGHT, "strange", (1, 1), ())
        for inputs in ((0, 0), (0, 1), (1, 0)):
            self.no(ALWAYS_NOUGHT, "strange", inputs, ())
        for inputs in ((0, 0), (1, 1)):
            for turns in ((0,), (1,), (0, 1), (1, 0)):
                self.yes(TURNED, "strange", inputs, turns)
            self.no(TURNED, "strange", inputs, ())
            self.no(TURNED, "unlike", inputs, (0, 1))
        for inputs in ((0, 1), (1, 0)):
            for turns in ((), (0,), (1,), (0, 1)):
                self.no(TURNED, "strange", inputs, turns)
            self.yes(TURNED, "unlike", inputs, (0, 1))

    def test_turns_need_not_be_few_nor_other_papers_missing(self):
        house = (((ONE, 0),), (OWN, OWN, NEVER))
        for many in (0, 1, 2, 50, 200, 600):
            self.yes(house, "unlike", (0, 1, 0), (2,) * many)
            self.yes(house, "round", (0, 0, 0), (2,) * many, (2,))
            self.yes(house, "round", (0, 1, 0), (2,) * many, (2,) * 5)
        turned = ((1, 0), OWN[1])
        house = (((ONE, 0),), (turned, turned, NEVER))
        self.yes(house, "unlike", (0, 1, 0), (2, 2))
        self.yes(house, "strange", (0, 0, 0), (2, 2))
        self.yes(house, "round", (0, 0, 0), (2, 2), (2,))

    def test_round(self):
        self.yes(GOING, "round", (0, 0), (0,), (0, 0))
        self.yes(GOING, "round", (0, 1), (0, 0), (0, 0))
        self.yes(GOING, "round", (1, 1), (0, 0, 0), (0, 0, 0, 0))
        for turns, again in (((0,), ()), ((), ()), ((0,), (0,)), ((0, 0), (0, 0, 0)), ((), (0,)), ((), (0, 0)),
                             ((), (0, 0, 0))):
            self.no(GOING, "round", (0, 0), turns, again)

    def test_inputs_that_are_none(self):
        for inputs in ((), (0,), (1,), (0, 0, 0), (0, 1, 0), (0, 2), (2, 1), (-1, 0), (0, -1), (1, -2), (10 ** 30, 0)):
            for word in ("unlike", "strange"):
                for house in (EACH_ITS_OWN, ALWAYS_NOUGHT):
                    self.no(house, word, inputs, ())
            self.no(GOING, "round", inputs, (0,), (0, 0))
        self.no((((ONE, 0),), (OWN, OWN, NEVER)), "unlike", (0, 1), ())

    def test_a_turn_that_is_no_hands(self):
        for wrong in (-1, -2, -3, 2, 3, 10 ** 30, -10 ** 30):
            for at in range(5):
                turns = (0, 0, 1, 1)[:at] + (wrong,) + (0, 0, 1, 1)[at:]
                self.no(SLOW, "unlike", (0, 1), turns)
            self.no(SLOW, "unlike", (0, 1), (0, 0, 1, wrong))
            self.no(TURNED, "strange", (0, 0), (wrong,))
            self.no(TURNED, "strange", (0, 0), (0, wrong))
            self.no(GOING, "round", (0, 0), (wrong,), (0, 0))
            self.no(GOING, "round", (0, 0), (0, wrong), (0, 0))
            self.no(GOING, "round", (0, 0), (0,), (wrong,))
            self.no(GOING, "round", (0, 0), (0,), (0, 0, wrong))
            self.no(GOING, "round", (0, 0), (0,), (wrong, 0, 0))

    def test_a_settled_hands_turn(self):
        self.no(EACH_ITS_OWN, "unlike", (0, 1), (0,))
        self.no(EACH_ITS_OWN, "unlike", (0, 1), (1,))
        self.no(SLOW, "unlike", (0, 1), (0, 0, 0, 1, 1))
        self.no(SLOW, "unlike", (0, 1), (0, 0, 1, 1, 1))
        self.no(ALWAYS_NOUGHT, "strange", (1, 1), (0,))
        self.no(TURNED, "strange", (0, 0), (0, 0))
        self.no(GOING, "round", (0, 0), (0, 1), (0, 0))
        self.no(GOING, "round", (0, 0), (0,), (1,))
        self.no(GOING, "round", (0, 0), (0,), (0, 1, 0))
        self.no(GOING, "round", (0, 0), (0,), (0, 0, 1))
        self.no(ALWAYS_NOUGHT, "round", (0, 0), (), (0,))

    def test_papers_that_are_bent(self):
        source = random.Random(17)
        told = {}
        for seed, make in ((174, any_house), (175, house_of_words), (176, near_good)):
            for house, stands in small_houses(100, seed, make, 40):
                for k in range(12):
                    paper = self.bent(source, house, paper_of(house))
                    verdict = wanted(house, stands, paper)
                    self.assertIs(holds(house, paper), verdict, (house, paper))
                    told[(paper[0], verdict)] = told.get((paper[0], verdict), 0) + 1
        for word, verdict in itertools.product(("unlike", "strange", "round", "good"), (True, False)):
            self.assertGreater(told[(word, verdict)], 15, told)

    def bent(self, source, house, paper):
        if paper[0] == "good" and source.randrange(2):
            numbers = dict(paper[1])
            stand = source.choice(list(numbers))
            numbers[stand] += source.randrange(-2, 3)
            return ("good", numbers)
        if source.randrange(8) == 0 and paper[0] != "good":
            return ("good", {stand: 9 for stand in all_stands(house)})
        inputs = source.choice(all_inputs(house))
        turns = tuple(source.randrange(-1, len(house[1]) + 1) for k in range(source.randrange(3)))
        word = paper[0] if paper[0] != "good" else "round"
        if paper[0] != "good" and source.randrange(3):
            inputs, turns = paper[1], paper[2][:source.randrange(len(paper[2]) + 1)] + turns
        if word != "round":
            return (word, inputs, turns)
        again = tuple(source.randrange(len(house[1])) for k in range(source.randrange(4)))
        if paper[0] == "round" and source.randrange(2):
            return paper[:3] + (paper[3] * source.randrange(3),)
        return (word, inputs, turns, again)


class Numbers(Checked):
    def test_other_numbers_that_fall_and_more_pairs(self):
        for house in (GOOD_OF_TWO, GOOD_OF_THREE, GOOD_BY_ONCE):
            numbers = deeds_left(house, all_stands(house))
            self.yes(house, "good", numbers)
            self.yes(house, "good", {stand: 3 * number + 7 for stand, number in numbers.items()})
            self.yes(house, "good", {stand: number * 10 ** 40 for stand, number in numbers.items()})
            self.yes(house, "good", dict(reversed(numbers.items())))
            more = dict(numbers)
            more[((0,), ())] = -5
            more[((7, 7, 7), (9,))] = 0
            more[((), ())] = 10 ** 30
            more[((-1, 0), (0,))] = -1
            self.yes(house, "good", more)
            self.assertEqual(len(more), len(numbers) + 4)

    def test_numbers_that_lack_a_stand(self):
        for house in (GOOD_OF_TWO, GOOD_BY_ONCE):
            numbers = deeds_left(house, all_stands(house))
            for stand in numbers:
                fewer = dict(numbers)
                fewer.pop(stand)
                self.no(house, "good", fewer)
            self.no(house, "good", {})

    def test_numbers_below_nought(self):
        for house in (GOOD_OF_TWO, GOOD_BY_ONCE):
            numbers = deeds_left(house, all_stands(house))
            for stand in [stand for stand, number in numbers.items() if number == 0]:
                self.no(house, "good", {**numbers, stand: -1})
            self.no(house, "good", {stand: number - 1 for stand, number in numbers.items()})

    def test_numbers_that_do_not_fall_somewhere(self):
        for house in (GOOD_OF_TWO, GOOD_BY_ONCE):
            stands = all_stands(house)
            numbers = deeds_left(house, stands)
            for stand in stands:
                for hand in movers(house, stand):
                    there = after(house, stand, hand)
                    # Just as many, and more; room elsewhere, so that it is this turn alone.
                    for more in (0, 1):
                        bent = {key: 10 * number for key, number in numbers.items()}
                        bent[there] = bent[stand] + more
                        self.no(house, "good", bent)
            self.no(house, "good", {stand: 5 for stand in stands})

    def test_numbers_where_there_is_a_round(self):
        never = (((ONE, 0),), (NEVER, NEVER))
        for number in (0, 1, 5):
            self.no(never, "good", {((0, 0), (0,)): number})

    def test_numbers_that_fall_where_the_house_is_not_safe(self):
        for house in (EACH_ITS_OWN, ALWAYS_NOUGHT, SLOW, TURNED):
            numbers = deeds_left(house, all_stands(house))
            self.assertIsNotNone(numbers)
            self.no(house, "good", numbers)
        # Strange by one inputs alone.
        turned = ((0, 0), (("settle", 0),))
        self.no(((), (turned, turned, turned)), "good", {((0, 0, 0), ()): 0})


class Handed(Checked):
    def test_the_paper_is_not_changed(self):
        numbers = deeds_left(GOOD_OF_TWO, all_stands(GOOD_OF_TWO))
        numbers[((9, 9), (9,))] = -3
        for house, paper in ((GOOD_OF_TWO, ("good", numbers)), (SLOW, ("good", numbers)), (GOOD_OF_TWO, ("good", {}))):
            kept = copy.deepcopy(paper)
            holds(house, paper)
            self.assertEqual(paper, kept)
            self.assertEqual(list(paper[1].items()), list(kept[1].items()))

    def test_the_same_question_has_the_same_answer(self):
        papers = [(SLOW, ("unlike", (0, 1), (0, 0, 1, 1))), (SLOW, ("unlike", (0, 1), (0, 0, 1))),
                  (GOING, ("round", (0, 0), (0,), (0, 0))), (GOOD_OF_TWO, paper_of(GOOD_OF_TWO))]
        for k in range(2):
            self.assertEqual([holds(house, paper) for house, paper in papers], [True, False, True, True])

    def test_turns_as_lists(self):
        self.yes(SLOW, "unlike", (0, 1), [0, 0, 1, 1])
        self.yes(GOING, "round", (0, 0), [0], [0, 0])

    def test_arguments_by_their_names(self):
        self.assertIs(holds(most=14, paper=paper_of(GOOD_OF_TWO), house=GOOD_OF_TWO), True)

    def test_too_many_goes_ahead_of_all_else(self):
        papers = {GOOD_OF_TWO: (paper_of(GOOD_OF_TWO), ("good", {})), SLOW: (paper_of(SLOW), ("unlike", (), ())),
                  TURNED: (("strange", (0, 0), (0,)), ("strange", (0, 0), (5,))),
                  GOING: (paper_of(GOING), ("round", (0, 0), (), ()), ("round", (0,), (9,), ()))}
        for house, told in papers.items():
            many = len(all_stands(house))
            for paper in told:
                self.assertIn(holds(house, paper, many), (True, False))
                for most in (many - 1, 1):
                    with self.assertRaises(TooMany) as taken:
                        holds(house, paper, most)
                    self.assertEqual(taken.exception.most, most)

    def test_most_left_out_is_500(self):
        lines = tuple(("do", 0, 0, (n + 1,)) for n in range(499)) + (("do", 0, 0, (0,)),)
        house = (((ONE, 0),), (((0, 0), lines), ((0, 0), (("settle", 0),))))
        self.yes(house, "round", (0, 0), (), (0,) * 500)
        longer = lines[:-1] + (("do", 0, 0, (500,)), ("do", 0, 0, (0,)))
        with self.assertRaises(TooMany) as taken:
            holds((house[0], (((0, 0), longer), house[1][1])), ("round", (0, 0), (), (0,) * 501))
        self.assertEqual(taken.exception.most, 500)


if __name__ == "__main__":
    unittest.main()
