"""Promises [24] and [25], and what [3] and [20] say of the good houses that are told."""

import itertools
import random
import unittest

from pactboards.book import add, first, mark, pact_first, pact_of, plain, swap
from pactboards.checks import holds
from pactboards.ends import critical, ends_of
from pactboards.errors import NoMark, PactError
from pactboards.houses import look
from pactboards.papers import paper_of
from pactboards.tables import is_meek, is_plain

from samples import (
    COUNT, FIRST, ONCE, ONE, PLAIN, SWAP, after, all_stands, any_table, kinds_within, movers, one_of, plain_table,
    word_of)


def slow_mark(table):
    for s, d in itertools.product(range(len(table)), range(len(table[0]))):
        goal, told = table[s][d]
        if table[goal][d][1] != told:
            return (s, d)
    return None


def drawn_tables(many, seed):
    source = random.Random(seed)
    return [any_table(source, 4, 4, 1 + one_of(source, 4)) for k in range(many)]


class Tables(unittest.TestCase):
    def test_written_out(self):
        self.assertEqual(first(1), (((1, 1),), ((1, 1),)))
        self.assertEqual(first(2), FIRST)
        self.assertEqual(plain(1), (((0, 0), (0, 0)),))
        self.assertEqual(plain(2), PLAIN)
        self.assertEqual(swap(1), ONE)
        self.assertEqual(swap(2), SWAP)
        self.assertEqual(add(1), ONE)
        self.assertEqual(add(2), (((1, 0),), ((0, 1),)))
        self.assertEqual(add(4), COUNT)

    def test_first_pair_by_pair(self):
        for n in range(1, 7):
            table = first(n)
            self.assertEqual([len(row) for row in table], [n] * (n + 1))
            for s, v in itertools.product(range(n + 1), range(1, n + 1)):
                stands_there = v if s == 0 else s
                self.assertEqual(table[s][v - 1], (stands_there, stands_there))

    def test_plain_pair_by_pair(self):
        for n in range(1, 5):
            table = plain(n)
            self.assertEqual([len(row) for row in table], [n + 1] * n)
            for s in range(n):
                self.assertEqual(table[s][0], (s, s))
                for v in range(n):
                    self.assertEqual(table[s][v + 1], (v, 0))

    def test_swap_pair_by_pair(self):
        for n in range(1, 5):
            table = swap(n)
            self.assertEqual([len(row) for row in table], [n] * n)
            for s, v in itertools.product(range(n), range(n)):
                self.assertEqual(table[s][v], (v, s))

    def test_add_pair_by_pair(self):
        for n in range(1, 5):
            self.assertEqual(add(n), tuple((((s + 1 if s < n - 1 else 0), s),) for s in range(n)))

    def test_kinds(self):
        for make in (first, plain, swap, add):
            for n in range(1, 5):
                self.assertEqual(kinds_within(make(n)), {tuple, int})
                self.assertEqual(make(n=n), make(n))
                self.assertIs(look((((make(n), 0),), (((0, 0), (("settle", 0),)),) * 2)), True)

    def test_which_are_plain_and_meek(self):
        for n in range(1, 5):
            self.assertIs(is_plain(plain(n)), True)
            self.assertIs(is_plain(swap(n)), n == 1)
            self.assertIs(is_plain(add(n)), n == 1)
            self.assertIs(is_meek(swap(n)), True)
            self.assertIs(is_meek(add(n)), True)
            self.assertIs(is_meek(first(n)), n == 1)
            self.assertIs(is_plain(first(n)), False)


class Mark(unittest.TestCase):
    def test_written_out(self):
        self.assertEqual(mark(ONCE), (0, 0))
        self.assertEqual(mark(add(4)), (0, 0))
        self.assertEqual(mark(swap(2)), (0, 1))
        self.assertEqual(mark((((0, 0), (0, 0)), ((1, 0), (0, 1)))), (1, 1))

    def test_by_states_then_by_deeds(self):
        # Deed 1 at state 0, deed 0 at state 1: the state goes first.
        table = (((0, 0), (1, 0)), ((0, 1), (1, 1)))
        self.assertEqual(mark(table), (0, 1))
        # Both deeds at state 0: the first deed.
        self.assertEqual(mark((((1, 0), (1, 0)), ((1, 1), (1, 1)))), (0, 0))
        self.assertEqual(mark((((0, 0), (1, 0), (1, 0)), ((1, 0), (1, 1), (1, 2)))), (0, 1))

    def test_the_answer_where_it_leads_not_elsewhere(self):
        # Deed 0 is answered 1 in state 2 alone, and it leads there only from there.
        self.assertIsNone(mark((((1, 0),), ((0, 0),), ((2, 1),))))
        self.assertEqual(mark((((1, 0),), ((0, 0),), ((0, 1),))), (2, 0))

    def test_none(self):
        for n in range(1, 5):
            self.assertIsNone(mark(plain(n)))
            self.assertIsNone(mark(first(n)))
        self.assertIsNone(mark(ONE))
        source = random.Random(250)
        for k in range(300):
            self.assertIsNone(mark(plain_table(source, 4, 4, 4)))

    def test_of_any_table(self):
        found = {}
        for table in drawn_tables(1500, 251):
            told = mark(table)
            self.assertEqual(told, slow_mark(table), table)
            self.assertEqual(told is None or kinds_within(told) == {tuple, int}, True)
            found[told] = found.get(told, 0) + 1
        self.assertGreater(found[None], 100)
        self.assertGreater(len(found), 8)

    def test_argument_by_its_name(self):
        self.assertEqual(mark(table=ONCE), (0, 0))


class PactOf(unittest.TestCase):
    def look_at(self, table):
        house = pact_of(table)
        self.assertIs(look(house), True)
        self.assertEqual(len(house[1]), 2)
        self.assertEqual(len(house[0]), 3)
        self.assertIn((table, slow_mark(table)[0]), house[0])
        others = list(house[0])
        others.remove((table, slow_mark(table)[0]))
        for other, state in others:
            self.assertIs(is_plain(other), True)
        self.assertEqual(kinds_within(house), {tuple, int, str})
        paper = paper_of(house)
        self.assertEqual(paper[0], "good", table)
        return house

    def test_of_any_table_with_a_mark(self):
        many = 0
        for table in drawn_tables(3000, 252):
            if slow_mark(table) is not None:
                self.look_at(table)
                many += 1
        self.assertGreater(many, 1200)

    def test_written_out(self):
        for table in (ONCE, SWAP, COUNT, swap(3), swap(4), add(2), add(3)):
            house = self.look_at(table)
            stands = all_stands(house)
            self.assertLessEqual(len(stands), 500)
            self.assertEqual(word_of(house, stands), "good")

    def test_the_mark_behind_the_first_state_and_deed(self):
        for table in ((((0, 0), (0, 0)), ((1, 0), (0, 1))), (((1, 0),), ((0, 0),), ((0, 1),)),
                      (((0, 3), (1, 3)), ((0, 3), (1, 0)))):
            self.look_at(table)
        self.assertEqual([mark(table) for table in (
            (((0, 0), (0, 0)), ((1, 0), (0, 1))), (((1, 0),), ((0, 0),), ((0, 1),)))], [(1, 1), (2, 0)])

    def test_answers_up_and_down(self):
        # The answer to the first one may be the greater one, and others may lie between.
        for ahead, later in itertools.permutations(range(4), 2):
            self.look_at((((1, ahead),), ((1, later),)))
            self.look_at((((1, ahead),), ((0, later),)))
            self.look_at((((1, ahead),), ((2, later),), ((0, ahead),)))

    def test_no_mark(self):
        for table in [plain(n) for n in range(1, 5)] + [first(n) for n in range(1, 5)] + [ONE]:
            with self.assertRaises(NoMark) as taken:
                pact_of(table)
            self.assertIsInstance(taken.exception, PactError)
        refused = 0
        for table in drawn_tables(400, 253):
            if slow_mark(table) is None:
                with self.assertRaises(NoMark):
                    pact_of(table=table)
                refused += 1
        self.assertGreater(refused, 30)

    def test_the_same_each_time(self):
        self.assertEqual(pact_of(ONCE), pact_of(ONCE))


class PactFirst(unittest.TestCase):
    def test_two_hands_and_three(self):
        for hands in (2, 3):
            house = pact_first(hands)
            self.assertIs(look(house), True)
            self.assertEqual(len(house[1]), hands)
            self.assertEqual([table for table, state in house[0]], [FIRST])
            self.assertEqual(kinds_within(house), {tuple, int, str})
            paper = paper_of(house)
            self.assertEqual(paper[0], "good")
            self.assertLessEqual(len(paper[1]), 500)
            self.assertEqual(word_of(house, all_stands(house)), "good")
            self.assertEqual(pact_first(hands=hands), house)


class Good(unittest.TestCase):
    def houses(self):
        yield from (pact_first(2), pact_first(3))
        for table in drawn_tables(120, 254):
            if slow_mark(table) is not None:
                yield pact_of(table)

    def test_critical_stands(self):
        for house in self.houses():
            self.assertIs(holds(house, paper_of(house)), True)
            told = critical(house)
            self.assertGreater(len(told), 0)
            for stand in told:
                self.look_at_critical(house, stand)

    def look_at_critical(self, house, stand):
        free = movers(house, stand)
        for i, j in itertools.combinations(free, 2):
            if ends_of(house, after(house, stand, i)) != ends_of(house, after(house, stand, j)):
                boards = {house[1][k][1][stand[0][k]][1] for k in (i, j)}
                self.assertEqual(len(boards), 1)
                table = house[0][boards.pop()][0]
                self.assertIs(is_plain(table), False)
                self.assertFalse(len(house[1]) == 3 and is_meek(table))


if __name__ == "__main__":
    unittest.main()
