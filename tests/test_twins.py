"""Promises [21] and [22]: stands that a hand can't tell apart, and twins."""

import itertools
import random
import unittest

from pactboards.alone import alone
from pactboards.twins import same_to, twins

from samples import (
    GOOD_BY_ONCE, GOOD_OF_THREE, GOOD_OF_TWO, PLAIN, RACE_OF_THREE, RACE_OF_TWO, SWAP, after_all, any_house, any_table,
    every_stand, is_meek_table, kinds_within, meek_table, movers, near_good, one_of, plain_table)


def told_apart(one, other, hand):
    return not (one[0][hand] == other[0][hand] and list(one[1]) == list(other[1]))


def all_twins(house, stand, i, j):
    found = []
    for one, other, k in itertools.product(((i,), (i, j)), ((j,), (j, i)), range(len(house[1]))):
        if not told_apart(after_all(house, stand, one), after_all(house, stand, other), k):
            found.append((one, other, k))
    return sorted(found)


def meetings(many, seed, make):
    """Houses with any stands of them and each two unlike free hands there."""
    source = random.Random(seed)
    for k in range(many):
        house = make(source)
        stands = list(every_stand(house))
        for stand in source.sample(stands, min(len(stands), 8)):
            for i, j in itertools.permutations(movers(house, stand), 2):
                yield house, stand, i, j


def is_plain_table(table):
    for d in range(len(table[0])):
        column = [row[d] for row in table]
        look = all(goal == s for s, (goal, told) in enumerate(column))
        if not look and len(set(column)) > 1 or not look and column[0][1] > 0:
            return False
    return True


def boards_of(house, stand, i, j):
    return [house[1][k][1][stand[0][k]][1] for k in (i, j)]


def with_tables(make):
    def made(source):
        return any_house(source, [make(source) for k in range(1 + one_of(source, 3))])

    return made


class Apart(unittest.TestCase):
    def test_the_same_stand(self):
        for hand in range(3):
            self.assertIs(same_to(((0, 1, 2), (3, 4)), ((0, 1, 2), (3, 4)), hand), True)
        self.assertIs(same_to(((0, 1), ()), ((0, 1), ()), 1), True)

    def test_another_line_of_the_hand(self):
        self.assertIs(same_to(((0, 1, 2), (3, 4)), ((1, 1, 2), (3, 4)), 0), False)
        self.assertIs(same_to(((0, 1, 2), (3, 4)), ((0, 0, 2), (3, 4)), 1), False)
        self.assertIs(same_to(((0, 1, 2), ()), ((0, 1, 0), ()), 2), False)

    def test_another_line_of_another_hand_only(self):
        self.assertIs(same_to(((0, 1, 2), (3, 4)), ((0, 5, 6), (3, 4)), 0), True)
        self.assertIs(same_to(((0, 1, 2), (3, 4)), ((5, 1, 6), (3, 4)), 1), True)
        self.assertIs(same_to(((0, 1), (3,)), ((5, 1), (3,)), 1), True)

    def test_another_state_of_any_board(self):
        for states in ((0, 4, 5), (3, 0, 5), (3, 4, 0)):
            for hand in range(2):
                self.assertIs(same_to(((0, 1), (3, 4, 5)), ((0, 1), states), hand), False)

    def test_alone_it_does_the_same_from_both(self):
        for house, stand, i, j in meetings(40, 210, any_house):
            for one, other, k in twins(house, stand, i, j):
                self.assertEqual(alone(house, after_all(house, stand, one), k),
                                 alone(house, after_all(house, stand, other), k))

    def test_arguments_by_their_names(self):
        self.assertIs(same_to(hand=1, other=((3, 1), (0,)), one=((0, 1), (0,))), True)


class Twins(unittest.TestCase):
    def test_at_unlike_boards(self):
        hand = ((0, 0), (("do", 0, 0, (1, 1)), ("settle", 0)))
        other = ((0, 0), (("do", 1, 1, (1, 1)), ("settle", 0)))
        house = (((SWAP, 1), (SWAP, 0)), (hand, other))
        self.assertEqual(twins(house, ((0, 0), (1, 0)), 0, 1), [((0, 1), (1, 0), 0), ((0, 1), (1, 0), 1)])

    def test_at_a_plain_board(self):
        look = ((0, 0), (("do", 0, 0, (1, 2)), ("settle", 0), ("settle", 1)))
        lay = ((0, 0), (("do", 0, 2, (1,)), ("settle", 0)))
        house = (((PLAIN, 0),), (look, lay))
        self.assertEqual(twins(house, ((0, 0), (0,)), 0, 1), [((0, 1), (1,), 1), ((0, 1), (1, 0), 1)])
        self.assertEqual(twins(house, ((0, 0), (0,)), 1, 0), [((1,), (0, 1), 1), ((1, 0), (0, 1), 1)])
        # Already laid: nothing that the look could see is changed.
        self.assertEqual(twins(house, ((0, 0), (1,)), 0, 1), [
            ((0,), (1, 0), 0), ((0, 1), (1,), 1), ((0, 1), (1, 0), 0), ((0, 1), (1, 0), 1)])

    def test_all_of_them(self):
        # Nothing changes but the hands' own lines.
        house = ((((((0, 0),),), 0),), (((0, 0), (("do", 0, 0, (0,)),)),) * 3)
        told = twins(house, ((0, 0, 0), (0,)), 2, 1)
        self.assertEqual(told, [(one, other, k) for one in ((2,), (2, 1)) for other in ((1,), (1, 2))
                                for k in range(3)])
        self.assertEqual(len(told), 12)

    def test_at_a_meek_board_that_is_not_plain(self):
        lay = [((0, 0), (("do", 0, v, (1, 2)), ("settle", 0), ("settle", 1))) for v in (0, 1)]
        house = (((SWAP, 0),), (lay[0], lay[1], lay[0]))
        told = twins(house, ((0, 0, 0), (0,)), 0, 1)
        self.assertEqual(told, [((0,), (1, 0), 2), ((0, 1), (1,), 1), ((0, 1), (1,), 2)])
        self.assertEqual(twins(house, ((0, 0, 0), (1,)), 0, 1), [
            ((0,), (1, 0), 0), ((0,), (1, 0), 2), ((0, 1), (1,), 2)])
        # Both swap the same in: each can tell all of them apart, but the third one none.
        house = (((SWAP, 0),), (lay[1], lay[1], lay[0]))
        self.assertEqual(twins(house, ((0, 0, 0), (0,)), 0, 1), [
            ((0,), (1,), 2), ((0,), (1, 0), 2), ((0, 1), (1,), 2), ((0, 1), (1, 0), 2)])

    def test_none(self):
        for house in (GOOD_OF_TWO, GOOD_OF_THREE):
            many = len(house[1])
            self.assertEqual(twins(house, ((0, 1, 0)[:many], (0,)), 0, 1), [])
            self.assertEqual(twins(house, ((0, 1, 0)[:many], (0,)), 1, 0), [])
        # Both put the same: now there are some.
        self.assertEqual(twins(GOOD_OF_TWO, ((0, 0), (0,)), 0, 1), [
            ((0,), (1, 0), 0), ((0, 1), (1,), 1), ((0, 1), (1, 0), 0), ((0, 1), (1, 0), 1)])

    def test_of_any_house(self):
        found = []
        for make in (any_house, near_good, with_tables(plain_table), with_tables(meek_table)):
            for house, stand, i, j in meetings(60, 220, make):
                told = twins(house, stand, i, j)
                self.assertEqual(told, all_twins(house, stand, i, j), (house, stand, i, j))
                self.assertIs(told.__class__, list)
                self.assertLessEqual(kinds_within(tuple(told)), {tuple, int})
                found.append((len(told), i < j))
        self.assertGreater(len(found), 1000)
        self.assertIn((0, True), found)
        self.assertIn((0, False), found)
        self.assertIn((12, False), found)

    def test_where_there_must_be_some(self):
        seen = {"unlike": 0, "plain": 0, "meek": 0, "neither": 0}
        for make in (with_tables(plain_table), with_tables(meek_table), with_tables(any_table)):
            for house, stand, i, j in meetings(80, 221, make):
                told = {k for one, other, k in twins(house, stand, i, j)}
                third = set(range(len(house[1]))) - {i, j}
                b, c = boards_of(house, stand, i, j)
                table = house[0][b][0]
                if b != c:
                    kind = "unlike"
                elif is_plain_table(table):
                    kind = "plain"
                else:
                    kind = "meek" if is_meek_table(table) else "neither"
                seen[kind] += bool(third)
                if kind in ("unlike", "plain"):
                    self.assertTrue(told & {i, j}, (house, stand, i, j))
                if kind != "neither":
                    self.assertLessEqual(third, told, (house, stand, i, j))
        self.assertGreater(min(seen.values()), 50, seen)

    def test_of_the_races(self):
        for house in (RACE_OF_TWO, RACE_OF_THREE):
            for stand in itertools.islice(every_stand(house), 0, None, 7):
                for i, j in itertools.permutations(movers(house, stand), 2):
                    self.assertEqual(twins(house, stand, i, j), all_twins(house, stand, i, j))

    def test_a_new_list_each_time(self):
        stand = ((0, 0), (0,))
        told = twins(GOOD_OF_TWO, stand, 0, 1)
        kept = list(told)
        told.clear()
        self.assertEqual(twins(GOOD_OF_TWO, stand, 0, 1), kept)
        self.assertIsNot(twins(GOOD_OF_TWO, stand, 0, 1), twins(GOOD_OF_TWO, stand, 0, 1))

    def test_arguments_by_their_names(self):
        stand = ((0, 0, 0), (0, 0, 1))
        self.assertEqual(twins(j=1, i=0, stand=stand[:1] + ((0, 0, 1),), house=GOOD_BY_ONCE),
                         all_twins(GOOD_BY_ONCE, stand, 0, 1))


if __name__ == "__main__":
    unittest.main()
