"""Promise [14]: numbers that fall, the first round, the deeds that are done on a board."""

import unittest

from pactboards.errors import TooMany
from pactboards.numbers import deeds_at, numbers_of, round_of

from samples import (
    ALWAYS_NOUGHT, COUNT, GOOD_BY_ONCE, GOOD_OF_THREE, GOOD_OF_TWO, ONE, PLAIN, WAITING, all_stands, any_house, chain,
    deeds_left, house_of_words, kinds_within, least_round, led_from, most_there, near_good, onward_house, small_houses,
    spread)

ENDED = ((0, 0), (("settle", 0),))
# Hand 0 does two deeds on board 0, then one on 1 and one on 2; hand 1 two on board 1, or one there and three on 0.
PARTED = (
    ((COUNT, 0), (PLAIN, 0), (ONE, 0), (ONE, 0)),
    (((0, 1), (("do", 0, 0, (1,) * 4), ("do", 0, 0, (2,) * 4), ("do", 1, 2, (3,)), ("do", 2, 0, (4,)), ("settle", 0))),
     ((0, 0), (("do", 1, 0, (1, 2)), ("do", 1, 0, (5, 5)), ("do", 0, 0, (3,) * 4), ("do", 0, 0, (4,) * 4),
               ("do", 0, 0, (5,) * 4), ("settle", 1)))))


def ring(many, ahead=0):
    """Hand 0 goes round so many lines, behind some ahead of them; hand 1 has settled."""
    lines = tuple(("do", 0, 0, (n + 1,)) for n in range(ahead + many - 1)) + (("do", 0, 0, (ahead,)),)
    return (((ONE, 0),), (((0, 0), lines), ENDED))


class Refusals(unittest.TestCase):
    def test_too_many_goes_ahead_of_all_else(self):
        for house in (GOOD_OF_TWO, GOOD_OF_THREE, GOOD_BY_ONCE, PARTED, ring(5), ring(1, 1), chain(3)):
            many = len(all_stands(house))
            for ask in (numbers_of, round_of, lambda house, most: deeds_at(house, 0, most),
                        lambda house, most: deeds_at(house=house, most=most, board=0)):
                ask(house, many)
                for most in (many - 1, 1):
                    with self.assertRaises(TooMany) as taken:
                        ask(house, most)
                    self.assertEqual(taken.exception.most, most)

    def test_most_left_out_is_500(self):
        for ask in (numbers_of, round_of, lambda house: deeds_at(house, 0)):
            for house in (chain(500), ring(500)):
                ask(house)
            for house in (chain(501), ring(501)):
                with self.assertRaises(TooMany) as taken:
                    ask(house)
                self.assertEqual(taken.exception.most, 500)


class Numbers(unittest.TestCase):
    def test_written_out(self):
        self.assertEqual(numbers_of(GOOD_OF_TWO), {
            ((0, 0), (0,)): 2, ((0, 1), (0,)): 2, ((1, 0), (0,)): 2, ((1, 1), (0,)): 2,
            ((2, 0), (1,)): 1, ((0, 2), (1,)): 1, ((2, 1), (1,)): 1, ((0, 3), (2,)): 1, ((3, 0), (2,)): 1,
            ((1, 2), (1,)): 1, ((3, 1), (2,)): 1, ((1, 3), (2,)): 1, ((2, 2), (1,)): 0, ((3, 3), (2,)): 0})

    def test_the_most_not_the_fewest(self):
        told = numbers_of(PARTED)
        self.assertEqual(told[((0, 0), (0, 0, 0, 0))], 8)
        self.assertEqual(told[((0, 1), (0, 0, 0, 0))], 5)

    def test_nobody_is_free(self):
        self.assertEqual(numbers_of(ALWAYS_NOUGHT), {((0, 0), ()): 0})

    def test_none_where_there_is_a_round(self):
        for house in (WAITING, ring(1), ring(2), ring(7), ring(1, 4), ring(3, 1)):
            self.assertIsNone(numbers_of(house))

    def test_of_any_house(self):
        rounds = 0
        for seed, make in ((140, any_house), (141, onward_house), (142, near_good)):
            for house, stands in small_houses(120, seed, make, 150):
                told = numbers_of(house)
                wanted = deeds_left(house, stands)
                self.assertEqual(told, wanted, house)
                rounds += wanted is None
                if wanted is not None:
                    self.assertIs(told.__class__, dict)
                    self.assertEqual(set(told), set(stands))
                    self.assertEqual({number.__class__ for number in told.values()}, {int})
        self.assertTrue(50 < rounds < 250)

    def test_a_new_dict_each_time(self):
        once = numbers_of(GOOD_OF_TWO)
        kept = dict(once)
        once.clear()
        again = numbers_of(GOOD_OF_TWO)
        self.assertEqual(again, kept)
        again[((0, 0), (0,))] = 9
        self.assertEqual(numbers_of(house=GOOD_OF_TWO, most=14), kept)

    def test_each_stand_is_reckoned_once(self):
        told = numbers_of(spread(7))
        self.assertEqual(len(told), 343)
        for stand, number in told.items():
            self.assertEqual(number, 18 - sum(stand[0]))
        self.assertEqual(max(numbers_of(spread(15), 4000).values()), 42)

    def test_a_long_way(self):
        self.assertEqual(max(numbers_of(chain(4000), 4000).values()), 3999)


class Rounds(unittest.TestCase):
    def test_rings(self):
        for many in (1, 2, 3, 9):
            self.assertEqual(round_of(ring(many)), (((0, 0), (0,)), (0,) * many))
            self.assertEqual(round_of(ring(many, 3)), (((3, 0), (0,)), (0,) * many))

    def test_none(self):
        for house in (GOOD_OF_TWO, GOOD_BY_ONCE, ALWAYS_NOUGHT, PARTED, chain(40), spread(6)):
            self.assertIsNone(round_of(house))

    def test_the_first_stand_not_the_shortest_round(self):
        # Hand 1 has a round of one deed behind its first; that of hand 0 has three, but begins at once.
        own = ((0, 0), (("do", 0, 0, (1,)), ("do", 0, 0, (2,)), ("do", 0, 0, (0,))))
        late = ((0, 0), (("do", 0, 0, (1,)), ("do", 0, 0, (1,))))
        house = (((ONE, 0),), (own, late))
        self.assertEqual(round_of(house), (((0, 0), (0,)), (0, 0, 0)))
        house = (((ONE, 0),), (late, own))
        self.assertEqual(round_of(house), (((0, 0), (0,)), (1, 1, 1)))

    def test_the_shortest_turns_and_of_these_the_least(self):
        own = ((0, 0), (("do", 0, 0, (1,)), ("do", 0, 0, (0,))))
        house = (((ONE, 0),), (own, own, own))
        self.assertEqual(round_of(house), (((0, 0, 0), (0,)), (0, 0)))
        step = ((0, 0), (("do", 0, 0, (0,)),))
        self.assertEqual(round_of((((ONE, 0),), (own, step, step))), (((0, 0, 0), (0,)), (1,)))
        self.assertEqual(round_of((((ONE, 0),), (own, own, step))), (((0, 0, 0), (0,)), (2,)))
        count = ((0, 0), (("do", 0, 0, (0,) * 4),))
        self.assertEqual(round_of((((COUNT, 0),), (count, count))), (((0, 0), (0,)), (0, 0, 0, 0)))

    def test_turns_of_several_hands(self):
        # Each hand waits for the other's sign: only both together come round.
        one = ((0, 0), (("do", 0, 2, (1,)), ("do", 0, 0, (2, 1)), ("settle", 0)))
        other = ((0, 0), (("do", 0, 1, (1,)), ("do", 0, 0, (1, 0))))
        house = (((PLAIN, 0),), (one, other))
        stands = all_stands(house)
        self.assertEqual(round_of(house), least_round(house, stands))

    def test_a_stand_between_two_rounds_is_on_none(self):
        # Hand 0 goes round on 0 and 1 until the board is laid by hand 1; then by 4 and 2, never back, to the round of 3.
        lines = (("do", 0, 0, (1, 4)), ("do", 0, 0, (0, 0)), ("do", 1, 0, (3,)), ("do", 1, 0, (3,)), ("do", 0, 1, (2,)))
        layer = ((1, 0), (("do", 0, 2, (1,)), ("settle", 0)))
        house = (((PLAIN, 0), (ONE, 0)), (((2, 0), lines), layer))
        begin = ((2, 1), (0, 0))
        self.assertEqual(all_stands(house)[0], begin)
        self.assertIn(begin, led_from(house, ((0, 0), (0, 0))))
        self.assertEqual(round_of(house), (((0, 1), (0, 0)), (0, 0)))

    def test_of_any_house(self):
        many = 0
        for seed, make in ((143, any_house), (144, house_of_words), (145, near_good)):
            for house, stands in small_houses(150, seed, make, 60):
                wanted = least_round(house, stands)
                told = round_of(house)
                self.assertEqual(told, wanted, house)
                self.assertEqual(told is None, numbers_of(house) is not None)
                if told is not None:
                    many += len(told[1]) > 1
                    self.assertEqual(kinds_within(told), {tuple, int})
        self.assertGreater(many, 30)

    def test_a_long_round(self):
        self.assertEqual(round_of(ring(3000, 1000), 4000), (((1000, 0), (0,)), (0,) * 3000))

    def test_arguments_by_their_names(self):
        self.assertEqual(round_of(most=2, house=ring(2)), (((0, 0), (0,)), (0, 0)))


class Deeds(unittest.TestCase):
    def test_written_out(self):
        self.assertEqual(deeds_at(PARTED, 0), (2, 3))
        self.assertEqual(deeds_at(PARTED, 1), (1, 2))
        self.assertEqual(deeds_at(PARTED, 2), (1, 0))
        self.assertEqual(deeds_at(PARTED, 3), (0, 0))
        self.assertEqual(deeds_at(GOOD_OF_THREE, 0), (1, 1, 1))
        self.assertEqual([deeds_at(GOOD_BY_ONCE, b) for b in range(3)], [(1, 1), (1, 1), (1, 1)])

    def test_none_where_there_is_a_round(self):
        self.assertIsNone(deeds_at(WAITING, 0))
        self.assertIsNone(deeds_at(ring(2, 2), 0))
        # Nobody does a deed on the last board, but there is a round.
        house = ring(3)
        self.assertIsNone(deeds_at((house[0] + ((ONE, 0),), house[1]), 1))

    def test_a_deed_that_only_one_order_of_turns_leads_to(self):
        # Hand 1 does deeds on board 1 only where hand 0 was ahead of it.
        one = ((0, 0), (("do", 0, 2, (1,)), ("settle", 0)))
        other = ((0, 0), (("do", 0, 0, (2, 1)), ("do", 1, 0, (3,)), ("settle", 0), ("do", 1, 0, (2,))))
        self.assertEqual(deeds_at((((PLAIN, 0), (ONE, 0)), (one, other)), 1), (0, 2))
        # Hand 0 never lays: it is led there only by its begin.
        still = ((0, 1), (("settle", 0), ("do", 0, 2, (0,))))
        self.assertEqual(deeds_at((((PLAIN, 0), (ONE, 0)), (still, other)), 1), (0, 2))
        still = ((0, 0), still[1])
        self.assertEqual(deeds_at((((PLAIN, 0), (ONE, 0)), (still, other)), 1), (0, 0))
        self.assertEqual(deeds_at((((PLAIN, 0), (ONE, 0)), (still, other)), 0), (0, 1))

    def test_of_any_house(self):
        most = 0
        for seed, make in ((146, onward_house), (147, near_good), (148, any_house)):
            for house, stands in small_houses(100, seed, make, 200):
                for board in range(len(house[0])):
                    told = deeds_at(house, board)
                    if deeds_left(house, stands) is None:
                        self.assertIsNone(told)
                    else:
                        wanted = tuple(most_there(house, hand, board) for hand in range(len(house[1])))
                        self.assertEqual(told, wanted, (house, board))
                        self.assertEqual(kinds_within(told), {tuple, int})
                        most = max(most, max(told))
        self.assertGreater(most, 2)

    def test_each_stand_is_reckoned_once(self):
        self.assertEqual([deeds_at(spread(7), b) for b in range(3)], [(6, 0, 0), (0, 6, 0), (0, 0, 6)])
        self.assertEqual(deeds_at(chain(4000), 0, 4000), (0, 3999))

    def test_arguments_by_their_names(self):
        self.assertEqual(deeds_at(most=100, board=2, house=PARTED), (1, 0))


if __name__ == "__main__":
    unittest.main()
