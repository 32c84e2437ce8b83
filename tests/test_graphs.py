"""Promise [13], and of [2] what it says of most: all stands of a house."""

import unittest

from pactboards.errors import TooMany
from pactboards.graphs import stands_of

from samples import (
    ALWAYS_NOUGHT, COUNT, EACH_ITS_OWN, GOOD_BY_ONCE, GOOD_OF_THREE, GOOD_OF_TWO, ONE, WAITING, all_stands, chain,
    house_of_words, kinds_within, some_houses, wide)


class Order(unittest.TestCase):
    def test_written_out(self):
        self.assertEqual(stands_of(GOOD_OF_TWO), [
            ((0, 0), (0,)), ((0, 1), (0,)), ((1, 0), (0,)), ((1, 1), (0,)),
            ((2, 0), (1,)), ((0, 2), (1,)), ((2, 1), (1,)), ((0, 3), (2,)), ((3, 0), (2,)), ((1, 2), (1,)),
            ((3, 1), (2,)), ((1, 3), (2,)), ((2, 2), (1,)), ((3, 3), (2,))])

    def test_begins_by_rising_inputs_not_by_rising_lines(self):
        hand = ((1, 0), (("settle", 0), ("settle", 1)))
        self.assertEqual(stands_of(((), (hand, hand))), [((1, 1), ()), ((1, 0), ()), ((0, 1), ()), ((0, 0), ())])

    def test_none_twice(self):
        self.assertEqual(stands_of(ALWAYS_NOUGHT), [((0, 0), ())])
        like = ((0, 0), (("settle", 0), ("settle", 1)))
        unlike = ((1, 0), (("settle", 0), ("settle", 1)))
        self.assertEqual(stands_of(((), (like, unlike, like))), [((0, 1, 0), ()), ((0, 0, 0), ())])
        self.assertEqual(stands_of(WAITING), [((0, 0), (0,))])

    def test_a_begin_to_which_turns_lead_too(self):
        house = (((ONE, 0),), (((0, 1), (("do", 0, 0, (1,)), ("do", 0, 0, (0,)))), ((0, 0), (("settle", 1),))))
        self.assertEqual(stands_of(house), [((0, 0), (0,)), ((1, 0), (0,))])

    def test_hands_that_have_settled_have_no_turn(self):
        self.assertEqual(stands_of(EACH_ITS_OWN), [((0, 0), ()), ((0, 1), ()), ((1, 0), ()), ((1, 1), ())])
        self.assertEqual(stands_of(chain(4)), [((0, n), (0,)) for n in range(4)])

    def test_boards_make_stands_unlike(self):
        hand = ((0, 0), (("do", 0, 0, (0,) * 4),))
        self.assertEqual(stands_of((((COUNT, 2),), (hand, hand))), [((0, 0), (s,)) for s in (2, 3, 0, 1)])

    def test_of_any_house(self):
        sizes = []
        for house in some_houses(250, 13, house_of_words) + [GOOD_BY_ONCE, GOOD_OF_THREE]:
            wanted = all_stands(house, 500)
            if wanted is not None and len(wanted) <= 500:
                told = stands_of(house)
                self.assertIs(told.__class__, list)
                self.assertEqual(told, wanted)
                self.assertEqual(kinds_within(tuple(told)), {tuple, int})
                sizes.append(len(told))
        self.assertGreater(len(sizes), 200)
        self.assertGreater(max(sizes), 200)

    def test_a_new_list_each_time(self):
        once = stands_of(GOOD_OF_TWO)
        kept = list(once)
        once.reverse()
        once.append("more")
        self.assertEqual(stands_of(GOOD_OF_TWO), kept)
        self.assertNotEqual(stands_of(GOOD_OF_THREE), kept)
        self.assertEqual(stands_of(GOOD_OF_TWO), kept)


class Most(unittest.TestCase):
    def refused(self, house, most):
        with self.assertRaises(TooMany) as taken:
            stands_of(house, most)
        self.assertEqual(taken.exception.most, most)
        self.assertIs(taken.exception.most.__class__, int)

    def test_just_as_many_and_one_fewer(self):
        for house in some_houses(60, 14) + [GOOD_OF_TWO, GOOD_OF_THREE, GOOD_BY_ONCE, chain(1), chain(2), chain(900)]:
            wanted = all_stands(house, 1000)
            if wanted is not None and len(wanted) <= 1000:
                many = len(wanted)
                self.assertEqual(stands_of(house, many), wanted)
                self.assertEqual(stands_of(house, many + 1), wanted)
                self.assertEqual(stands_of(house, 4000), wanted)
                if many > 1:
                    self.refused(house, many - 1)
                    self.refused(house, 1)

    def test_left_out_it_is_500(self):
        self.assertEqual(len(stands_of(chain(499))), 499)
        self.assertEqual(len(stands_of(chain(500))), 500)
        for house in (chain(501), chain(502), wide(8), wide(10)):
            with self.assertRaises(TooMany) as taken:
                stands_of(house)
            self.assertEqual(taken.exception.most, 500)

    def test_the_begins_alone_are_more(self):
        hand = ((0, 1), (("settle", 0), ("settle", 1)))
        for hands in (2, 3):
            house = ((), (hand,) * hands)
            many = 2 ** hands
            self.assertEqual(len(stands_of(house, many)), many)
            for most in range(1, many):
                self.refused(house, most)

    def test_four_thousand(self):
        self.assertEqual(len(stands_of(chain(4000), 4000)), 4000)
        self.refused(chain(4001), 4000)
        self.assertEqual(len(stands_of(wide(15), 4000)), 3375)
        self.refused(wide(16), 4000)

    def test_a_house_of_very_many_stands_is_refused_at_once(self):
        self.refused(wide(1000), 1)
        self.refused(wide(1000), 4000)

    def test_the_refusal_is_the_same_again(self):
        for most in (13, 1, 14, 13, 2):
            if most == 14:
                self.assertEqual(len(stands_of(GOOD_OF_TWO, most)), 14)
            else:
                self.refused(GOOD_OF_TWO, most)

    def test_arguments_by_their_names(self):
        self.assertEqual(len(stands_of(most=14, house=GOOD_OF_TWO)), 14)
        with self.assertRaises(TooMany):
            stands_of(most=13, house=GOOD_OF_TWO)


if __name__ == "__main__":
    unittest.main()
