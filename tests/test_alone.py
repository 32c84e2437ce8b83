"""Promise [12]: a hand alone."""

import itertools
import unittest

from pactboards.alone import alone

from samples import (
    COUNT, GOOD_BY_ONCE, GOOD_OF_THREE, ONE, PLAIN, WAITING, after, every_stand, kinds_within, settles, some_houses)

ENDED = ((0, 0), (("settle", 1),))
# Hand 0 counts on: it goes round its lines 1 to 3, the board through its four states.
COUNTING = (((COUNT, 0), (ONE, 0)), (
    ((0, 0), (("do", 1, 0, (1,)), ("do", 0, 0, (2,) * 4), ("do", 1, 0, (3,)), ("do", 0, 0, (1,) * 4))), ENDED))
# Hand 1 settles on 0 when the board has come to its last state.
LASTING = (((COUNT, 0),), (ENDED, ((0, 1), (("do", 0, 0, (0, 0, 0, 2)), ("settle", 1), ("settle", 0)))))


def wanted(house, stand, hand):
    """By the run itself, which is looked through for the first stand that came ahead."""
    stands = [stand]
    while True:
        ended = dict(settles(house, stands[-1]))
        if hand in ended:
            return ("settles", ended[hand], len(stands) - 1)
        there = after(house, stands[-1], hand)
        if there in stands:
            return ("round", stands.index(there), len(stands) - stands.index(there))
        stands.append(there)


class Alone(unittest.TestCase):
    def test_it_has_settled(self):
        self.assertEqual(alone(LASTING, ((0, 0), (0,)), 0), ("settles", 1, 0))
        self.assertEqual(alone(LASTING, ((0, 1), (3,)), 1), ("settles", 1, 0))
        self.assertEqual(alone(LASTING, ((0, 2), (3,)), 1), ("settles", 0, 0))

    def test_it_settles_behind_several_deeds(self):
        for state in range(4):
            self.assertEqual(alone(LASTING, ((0, 0), (state,)), 1), ("settles", 0, 4 - state))
        self.assertEqual(alone(GOOD_BY_ONCE, ((0, 1, ), (0, 0, 1)), 1), ("settles", 1, 2))
        self.assertEqual(alone(GOOD_BY_ONCE, ((0, 1, ), (1, 0, 1)), 1), ("settles", 0, 3))

    def test_a_round_at_once(self):
        self.assertEqual(alone(WAITING, ((0, 0), (0,)), 0), ("round", 0, 1))
        self.assertEqual(alone(WAITING, ((0, 0), (0,)), 1), ("round", 0, 1))
        self.assertEqual(alone(WAITING, ((0, 0), (1,)), 1), ("settles", 0, 1))

    def test_a_round_behind_deeds(self):
        # Line 1 comes again behind three deeds, but with the board in another state.
        self.assertEqual(alone(COUNTING, ((0, 0), (0, 0)), 0), ("round", 1, 6))
        self.assertEqual(alone(COUNTING, ((1, 0), (0, 0)), 0), ("round", 0, 6))
        self.assertEqual(alone(COUNTING, ((3, 0), (1, 0)), 0), ("round", 0, 6))

    def test_a_round_of_one_deed_behind_others(self):
        hand = ((0, 0), (("do", 0, 2, (1,)), ("do", 0, 0, (2, 1)), ("settle", 0)))
        house = (((PLAIN, 0),), (ENDED, ENDED, hand))
        self.assertEqual(alone(house, ((0, 0, 0), (0,)), 2), ("round", 1, 1))
        self.assertEqual(alone(house, ((0, 0, 1), (0,)), 2), ("settles", 0, 1))

    def test_only_the_boards_make_the_stands_unlike(self):
        hand = ((0, 0), (("do", 0, 0, (0,) * 4),))
        house = (((COUNT, 2),), (hand, hand))
        for state, k in itertools.product(range(4), range(2)):
            self.assertEqual(alone(house, ((0, 0), (state,)), k), ("round", 0, 4))

    def test_any_stand_of_any_house(self):
        words = {}
        for house in [COUNTING, LASTING, WAITING, GOOD_BY_ONCE, GOOD_OF_THREE] + some_houses(60, 12):
            for stand in itertools.islice(every_stand(house), 0, 4000, 7):
                for hand in range(len(house[1])):
                    told = alone(house, stand, hand)
                    self.assertEqual(told, wanted(house, stand, hand), (house, stand, hand))
                    self.assertEqual(kinds_within(told), {tuple, str, int})
                    key = told if told[0] == "settles" else (told[0], told[1] > 0, told[2] > 1)
                    words[key] = True
        for key in [("settles", v, many) for v in (0, 1) for many in range(4)]:
            self.assertIn(key, words)
        for key in [("round", ahead, more) for ahead in (True, False) for more in (True, False)]:
            self.assertIn(key, words)

    def test_a_long_way(self):
        """Two thousand stands and more by one hand, without a deep recursion."""
        table = tuple((((s + 1) % 700, 0),) for s in range(700))
        hand = ((0, 0), (("do", 0, 0, (1,)), ("do", 0, 0, (2,)), ("do", 0, 0, (0,))))
        house = (((table, 0),), (hand, hand))
        self.assertEqual(alone(house, ((0, 0), (0,)), 0), ("round", 0, 2100))

    def test_arguments_by_their_names(self):
        self.assertEqual(alone(hand=1, stand=((0, 0), (1,)), house=LASTING), ("settles", 0, 3))


if __name__ == "__main__":
    unittest.main()
