"""Promises [10] and [11]: stands, turns, runs, who has settled and who is free."""

import itertools
import random
import unittest

from pactboards.stands import begin, behind, free, run, settled

from samples import (
    COUNT, GOOD_BY_ONCE, GOOD_OF_THREE, GOOD_OF_TWO, PLAIN, after, all_inputs, every_stand, first_stand,
    kinds_within, movers, settles, some_houses)

# Hand 0 and hand 1 share board 0; hand 2 is on board 1. Each has settled at its last line.
SHARED = (
    ((COUNT, 1), (PLAIN, 0)),
    (((0, 1), (("do", 0, 0, (1, 2, 0, 2)), ("do", 0, 0, (0, 0, 2, 1)), ("settle", 1))),
     ((2, 0), (("do", 0, 0, (3, 1, 1, 3)), ("do", 0, 0, (2, 2, 2, 2)), ("do", 0, 0, (0, 3, 0, 3)), ("settle", 0))),
     ((1, 3), (("do", 1, 0, (1, 2)), ("do", 1, 2, (0,)), ("do", 1, 1, (3,)), ("settle", 1)))))
SOME = [SHARED, GOOD_OF_TWO, GOOD_OF_THREE, GOOD_BY_ONCE] + some_houses(60, 10)


def some_stands(house, many=60):
    return list(itertools.islice(every_stand(house), 0, None, 1 + sum(1 for s in every_stand(house)) // many))


class Begin(unittest.TestCase):
    def test_each_hand_at_its_begin_each_board_in_its_first_state(self):
        self.assertEqual(begin(SHARED, (0, 0, 0)), ((0, 2, 1), (1, 0)))
        self.assertEqual(begin(SHARED, (1, 0, 0)), ((1, 2, 1), (1, 0)))
        self.assertEqual(begin(SHARED, (0, 1, 0)), ((0, 0, 1), (1, 0)))
        self.assertEqual(begin(SHARED, (0, 0, 1)), ((0, 2, 3), (1, 0)))
        self.assertEqual(begin(SHARED, (1, 1, 1)), ((1, 0, 3), (1, 0)))

    def test_of_any_house(self):
        for house in SOME:
            for inputs in all_inputs(house):
                told = begin(house, inputs)
                self.assertEqual(told, first_stand(house, inputs))
                self.assertEqual(kinds_within(told), {tuple, int})

    def test_without_boards(self):
        hand = ((1, 0), (("settle", 0), ("settle", 1)))
        self.assertEqual(begin(((), (hand, hand)), (0, 1)), ((1, 0), ()))

    def test_arguments_by_their_names(self):
        self.assertEqual(begin(inputs=(1, 0, 1), house=SHARED), ((1, 2, 3), (1, 0)))


class Behind(unittest.TestCase):
    def test_the_board_answers_by_its_state_ahead_of_the_deed(self):
        for state, goal in enumerate((1, 2, 0, 2)):
            self.assertEqual(behind(SHARED, ((0, 2, 1), (state, 0)), 0), ((goal, 2, 1), ((state + 1) % 4, 0)))
        for state, goal in enumerate((3, 1, 1, 3)):
            self.assertEqual(behind(SHARED, ((2, 0, 1), (state, 1)), 1), ((2, goal, 1), ((state + 1) % 4, 1)))

    def test_a_look_and_layings(self):
        self.assertEqual(behind(SHARED, ((0, 0, 0), (2, 0)), 2), ((0, 0, 1), (2, 0)))
        self.assertEqual(behind(SHARED, ((0, 0, 0), (2, 1)), 2), ((0, 0, 2), (2, 1)))
        self.assertEqual(behind(SHARED, ((0, 0, 1), (2, 0)), 2), ((0, 0, 0), (2, 1)))
        self.assertEqual(behind(SHARED, ((0, 0, 2), (2, 1)), 2), ((0, 0, 3), (2, 0)))

    def test_two_hands_on_one_board_by_their_order(self):
        stand = ((0, 0, 3), (0, 0))
        one = behind(SHARED, behind(SHARED, stand, 0), 1)
        other = behind(SHARED, behind(SHARED, stand, 1), 0)
        self.assertEqual(one, ((1, 1, 3), (2, 0)))
        self.assertEqual(other, ((2, 3, 3), (2, 0)))

    def test_two_hands_on_unlike_boards_in_any_order(self):
        stand = ((0, 0, 1), (0, 0))
        one = behind(SHARED, behind(SHARED, stand, 0), 2)
        other = behind(SHARED, behind(SHARED, stand, 2), 0)
        self.assertEqual(one, ((1, 0, 0), (1, 1)))
        self.assertEqual(other, one)

    def test_a_settled_hands_turn_leaves_the_stand(self):
        for stand in every_stand(SHARED):
            for hand, last in enumerate((2, 3, 3)):
                if stand[0][hand] == last:
                    self.assertEqual(behind(SHARED, stand, hand), stand)

    def test_any_stand_of_any_house(self):
        for house in SOME:
            for stand in some_stands(house):
                for hand in range(len(house[1])):
                    told = behind(house, stand, hand)
                    self.assertEqual(told, after(house, stand, hand), (house, stand, hand))
                    self.assertLessEqual(kinds_within(told), {tuple, int})

    def test_arguments_by_their_names(self):
        self.assertEqual(behind(hand=0, stand=((0, 2, 1), (0, 0)), house=SHARED), ((1, 2, 1), (1, 0)))


class Run(unittest.TestCase):
    def test_one_stand_more_than_turns(self):
        told = run(SHARED, ((0, 0, 1), (0, 0)), (0, 2, 1))
        self.assertEqual(told, [((0, 0, 1), (0, 0)), ((1, 0, 1), (1, 0)), ((1, 0, 0), (1, 1)), ((1, 1, 0), (2, 1))])

    def test_no_turns(self):
        for stand in every_stand(SHARED):
            self.assertEqual(run(SHARED, stand, ()), [stand])
            self.assertEqual(run(SHARED, stand, []), [stand])

    def test_turns_of_settled_hands_among_them(self):
        stand = ((0, 3, 3), (1, 0))
        told = run(SHARED, stand, (1, 0, 0, 2))
        self.assertEqual(told, [stand, stand, ((2, 3, 3), (2, 0)), ((2, 3, 3), (2, 0)), ((2, 3, 3), (2, 0))])

    def test_any_turns_as_a_list_and_as_a_tuple(self):
        source = random.Random(11)
        for house in SOME:
            for stand in some_stands(house, 6):
                turns = [source.randrange(len(house[1])) for k in range(source.randrange(30))]
                kept = list(turns)
                wanted = [stand]
                for hand in turns:
                    wanted.append(after(house, wanted[-1], hand))
                told = run(house, stand, turns)
                self.assertIs(told.__class__, list)
                self.assertEqual(told, wanted)
                self.assertEqual(turns, kept)
                self.assertEqual(run(house, stand, tuple(turns)), wanted)

    def test_many_turns(self):
        stand = first_stand(SHARED, (0, 0, 0))
        self.assertEqual(len(run(SHARED, stand, (0, 1, 2) * 700)), 2101)

    def test_a_new_list_each_time(self):
        stand = first_stand(SHARED, (0, 0, 0))
        once = run(SHARED, stand, [0, 1])
        kept = list(once)
        once.append("more")
        once[0] = "other"
        self.assertEqual(run(SHARED, stand, [0, 1]), kept)
        turns = [0, 1]
        again = run(SHARED, stand, turns)
        turns.append(2)
        again.clear()
        self.assertEqual(turns, [0, 1, 2])
        self.assertEqual(run(SHARED, stand, (0, 1)), kept)

    def test_arguments_by_their_names(self):
        stand = ((0, 0, 1), (0, 0))
        self.assertEqual(run(turns=[0], stand=stand, house=SHARED), [stand, ((1, 0, 1), (1, 0))])


class SettledAndFree(unittest.TestCase):
    def test_none_some_and_all(self):
        for lines, values, hands in (
                ((0, 0, 0), (None, None, None), [0, 1, 2]), ((2, 1, 2), (1, None, None), [1, 2]),
                ((1, 3, 0), (None, 0, None), [0, 2]), ((0, 2, 3), (None, None, 1), [0, 1]),
                ((2, 3, 1), (1, 0, None), [2]), ((2, 3, 3), (1, 0, 1), [])):
            self.assertEqual(settled(SHARED, (lines, (0, 0))), values)
            self.assertEqual(free(SHARED, (lines, (0, 0))), hands)

    def test_any_stand_of_any_house(self):
        for house in SOME:
            for stand in some_stands(house):
                ended = dict(settles(house, stand))
                told = settled(house, stand)
                self.assertEqual(told, tuple(ended.get(k) for k in range(len(house[1]))))
                self.assertLessEqual(kinds_within(told), {tuple, int, None.__class__})
                hands = free(house, stand)
                self.assertIs(hands.__class__, list)
                self.assertEqual(hands, movers(house, stand))

    def test_a_new_list_each_time(self):
        for lines in ((0, 0, 0), (2, 3, 3)):
            once = free(SHARED, (lines, (0, 0)))
            kept = list(once)
            once.append(7)
            self.assertEqual(free(SHARED, (lines, (0, 0))), kept)

    def test_arguments_by_their_names(self):
        self.assertEqual(settled(stand=((2, 0, 0), (0, 0)), house=SHARED), (1, None, None))
        self.assertEqual(free(stand=((2, 0, 0), (0, 0)), house=SHARED), [1, 2])


if __name__ == "__main__":
    unittest.main()
