"""Promise [27]: turns in a rebuilt house followed in the old one."""

import random
import unittest

from pactboards.book import add, pact_first, pact_of, swap
from pactboards.follow import follow
from pactboards.rebuild import rebuilt

from samples import (
    COUNT, GOOD_BY_ONCE, GOOD_OF_THREE, GOOD_OF_TWO, PUTS, after, after_all, all_inputs, first_stand, good_house,
    kinds_within, movers, some_houses, values)


def good_houses(many, seed):
    return [pact_first(2), pact_first(3), pact_of(swap(2)), pact_of(add(4)), GOOD_BY_ONCE] + some_houses(
        many, seed, good_house)


def is_part(fewer, turns):
    """Whether the one row is the other but that some are left out."""
    left = iter(turns)
    return all(hand in left for hand in fewer)


def rows_of_turns(source, hands, many):
    """Rows of any lengths: by chance, a hand for long, by turns, and none at all."""
    yield ()
    yield tuple(range(hands)) * 12
    yield tuple(k for k in range(hands) for n in range(15))
    for k in range(many):
        told = []
        for n in range(source.randrange(25)):
            told += [source.randrange(hands)] * (1 + source.randrange(3))
        yield tuple(told)


class Follow(unittest.TestCase):
    def look_at(self, house, board, new, origins, inputs, turns):
        told = follow(house, board, new, origins, inputs, turns)
        self.assertLessEqual(kinds_within(told), {tuple, int})
        self.assertTrue(is_part(told, turns), (told, turns))
        self.assertEqual(follow(house, board, new, origins, inputs, list(turns)), told)
        old = after_all(house, first_stand(house, inputs), told)
        here = after_all(new, first_stand(new, inputs), turns)
        self.assertEqual(tuple(own[n] for own, n in zip(origins, here[0])), old[0])
        others = len(house[0]) - 1
        self.assertEqual(here[1][:others], old[1][:board] + old[1][board + 1:])
        return told

    def look_at_parts(self, house, board, new, origins, inputs, turns):
        whole = self.look_at(house, board, new, origins, inputs, turns)
        for many in range(len(turns)):
            told = self.look_at(house, board, new, origins, inputs, turns[:many])
            self.assertEqual(whole[:len(told)], told)

    def test_many_rows(self):
        source = random.Random(270)
        for house in good_houses(150, 271):
            for board in range(len(house[0])):
                new, origins = rebuilt(house, board, 4000)
                for inputs in all_inputs(house):
                    for turns in rows_of_turns(source, len(house[1]), 3):
                        self.look_at(house, board, new, origins, inputs, turns)

    def test_the_first_parts_of_a_row(self):
        source = random.Random(272)
        for house in good_houses(25, 273):
            for board in range(len(house[0])):
                new, origins = rebuilt(house, board, 4000)
                for inputs in source.sample(all_inputs(house), 2):
                    for turns in rows_of_turns(source, len(house[1]), 1):
                        self.look_at_parts(house, board, new, origins, inputs, turns)

    def test_each_stand_of_small_houses(self):
        # Depth first over all turns of free hands, so each run to its end.
        for house in (pact_first(2), pact_of(swap(2)), GOOD_BY_ONCE):
            for board in range(len(house[0])):
                new, origins = rebuilt(house, board)
                for inputs in all_inputs(house):
                    self.go_down(house, board, new, origins, inputs)

    def go_down(self, house, board, new, origins, inputs):
        waiting = [((), first_stand(new, inputs))]
        known = {first_stand(new, inputs)}
        while waiting:
            turns, stand = waiting.pop()
            self.look_at(house, board, new, origins, inputs, turns)
            for hand in movers(new, stand):
                there = after(new, stand, hand)
                if there not in known:
                    known.add(there)
                    waiting.append((turns + (hand,), there))

    def test_no_turns(self):
        new, origins = rebuilt(GOOD_OF_TWO, 0)
        self.assertEqual(follow(GOOD_OF_TWO, 0, new, origins, (0, 1), ()), ())
        self.assertEqual(follow(GOOD_OF_TWO, 0, new, origins, (0, 1), []), ())

    def test_settled_hands_turns(self):
        for house in (GOOD_OF_TWO, GOOD_OF_THREE, GOOD_BY_ONCE):
            hands = len(house[1])
            for board in range(len(house[0])):
                new, origins = rebuilt(house, board)
                for inputs in all_inputs(house):
                    turns = (0,) * 40 + (1,) * 40 + (0, 1) * 5 + (hands - 1,) * 40 + (0, 1, hands - 1) * 5
                    told = self.look_at(house, board, new, origins, inputs, turns)
                    there = after_all(house, first_stand(house, inputs), told)
                    self.assertEqual(movers(house, there), [])
                    self.assertEqual(len(values(house, there)), 1)

    def test_the_deed_that_comes_too_late_is_left_out(self):
        # Both put at once: the second one's turn is told of only when it puts again.
        new, origins = rebuilt(GOOD_OF_TWO, 0)
        for inputs in all_inputs(GOOD_OF_TWO):
            for one, other in ((0, 1), (1, 0)):
                self.assertEqual(follow(GOOD_OF_TWO, 0, new, origins, inputs, (one,)), (one,))
                late = follow(GOOD_OF_TWO, 0, new, origins, inputs, (one, other))
                self.assertIn(late, ((one,), (one, other)))
                self.assertEqual(follow(GOOD_OF_TWO, 0, new, origins, inputs, (one, other, other)), (one, other))

    def test_a_board_on_which_no_deed_is_ever_done(self):
        house = (GOOD_OF_TWO[0] + ((COUNT, 3),), GOOD_OF_TWO[1])
        new, origins = rebuilt(house, 1)
        for inputs in all_inputs(house):
            for turns in ((), (0,), (1, 0), (0, 1)):
                self.assertEqual(self.look_at(house, 1, new, origins, inputs, turns), turns)

    def test_many_deeds_on_the_board(self):
        begins, lines = PUTS
        hand = ((4, 5), lines + (("do", 1, 0, (6,) * 4), ("do", 1, 0, (7,) * 4), ("do", 1, 0, (0,) * 4),
                                 ("do", 1, 0, (1,) * 4)))
        house = (GOOD_OF_THREE[0] + ((COUNT, 1),), (hand, hand, hand))
        source = random.Random(274)
        for board in (0, 1):
            new, origins = rebuilt(house, board, 4000)
            for inputs in all_inputs(house):
                for turns in rows_of_turns(source, 3, 15):
                    self.look_at(house, board, new, origins, inputs, turns)

    def test_rebuilt_again(self):
        source = random.Random(275)
        for first_one in (GOOD_OF_TWO, GOOD_OF_THREE, GOOD_BY_ONCE):
            house = rebuilt(first_one, 0)[0]
            for board in range(len(house[0])):
                new, origins = rebuilt(house, board)
                for inputs in all_inputs(house):
                    for turns in rows_of_turns(source, len(house[1]), 4):
                        self.look_at(house, board, new, origins, inputs, turns)

    def test_arguments_by_their_names(self):
        new, origins = rebuilt(GOOD_OF_TWO, 0)
        self.assertEqual(follow(turns=(1,), inputs=(0, 1), origins=origins, new=new, board=0, house=GOOD_OF_TWO), (1,))


if __name__ == "__main__":
    unittest.main()
