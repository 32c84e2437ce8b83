"""Promises [29] and [30]: houses with hands or boards in another order, and trimmed ones."""

import itertools
import unittest

from pactboards.book import pact_first, pact_of, swap
from pactboards.ends import critical, ends_of
from pactboards.errors import TooMany
from pactboards.graphs import stands_of
from pactboards.houses import look
from pactboards.likes import boards_exchanged, hands_exchanged, trimmed
from pactboards.numbers import numbers_of
from pactboards.papers import paper_of
from pactboards.rebuild import rebuilt
from pactboards.twins import twins

from samples import (
    ALWAYS_NOUGHT, COUNT, EACH_ITS_OWN, FIRST, GOOD_BY_ONCE, GOOD_OF_THREE, GOOD_OF_TWO, ONCE, ONE, PLAIN, PUTS,
    RACE_OF_THREE, RACE_OF_TWO, SWAP, WAITING, all_stands, any_house, any_table, good_house, house_of_words,
    kinds_within, movers, near_good, slow_good, small_houses, wide)


def of_four_boards(source):
    return any_house(source, [any_table(source, 2, 2, 2) for k in range(4)], 2, 4)


def sample(many=40, most=80):
    yield from [(house, all_stands(house)) for house in (
        GOOD_OF_TWO, GOOD_OF_THREE, GOOD_BY_ONCE, EACH_ITS_OWN, ALWAYS_NOUGHT, WAITING, RACE_OF_TWO, RACE_OF_THREE)]
    for seed, make in ((290, any_house), (291, house_of_words), (292, near_good), (293, of_four_boards)):
        yield from small_houses(many, seed, make, most)


def told_anew(stand, hands, boards):
    return (tuple(stand[0][k] for k in hands), tuple(stand[1][k] for k in boards))


class Exchanged(unittest.TestCase):
    def look_at(self, house, stands, new, hands, boards):
        """New is the house with hands and boards in these orders: all that is told of it is the same, told anew."""
        def anew(stand):
            return told_anew(stand, hands, boards)

        self.assertIs(look(new), True)
        self.assertLessEqual(kinds_within(new), {tuple, int, str})
        self.assertEqual(sorted(stands_of(new, 2000)), sorted(anew(stand) for stand in stands))
        paper, other = paper_of(house, 2000), paper_of(new, 2000)
        self.assertEqual(other[0], paper[0])
        if paper[0] in ("unlike", "strange"):
            self.assertEqual(len(other[2]), len(paper[2]))
        numbers = numbers_of(house, 2000)
        told = numbers_of(new, 2000)
        self.assertEqual(told, numbers and {anew(stand): number for stand, number in numbers.items()})
        self.assertEqual(sorted(critical(new, 2000)), sorted(anew(stand) for stand in critical(house, 2000)))
        for stand in stands[::7]:
            self.assertEqual(ends_of(new, anew(stand)), ends_of(house, stand))
            self.look_at_twins(house, new, stand, anew(stand), hands)

    def look_at_twins(self, house, new, stand, other, hands):
        place = {old: number for number, old in enumerate(hands)}
        for i, j in itertools.permutations(movers(house, stand), 2):
            wanted = [(tuple(place[k] for k in one), tuple(place[k] for k in two), place[k])
                      for one, two, k in twins(house, stand, i, j)]
            self.assertEqual(twins(new, other, place[i], place[j]), sorted(wanted))

    def test_hands_written_out(self):
        house = (((PLAIN, 1),), (PUTS, ("a",), ("b",)))
        self.assertEqual(hands_exchanged(house, (2, 0, 1)), (((PLAIN, 1),), (("b",), PUTS, ("a",))))
        self.assertEqual(hands_exchanged(house, (1, 2, 0)), (((PLAIN, 1),), (("a",), ("b",), PUTS)))
        self.assertEqual(hands_exchanged(house, (0, 1, 2)), house)

    def test_boards_written_out(self):
        lines = (("do", 0, 0, (1, 1)), ("do", 1, 1, (2,)), ("do", 2, 0, (3, 3)), ("settle", 0), ("settle", 1))
        house = (((ONCE, 0), (PLAIN, 1), (SWAP, 0)), (((0, 4), lines), ((3, 2), lines)))
        # Board 2 goes first, so a do on it is one on board 0.
        moved = (("do", 1, 0, (1, 1)), ("do", 2, 1, (2,)), ("do", 0, 0, (3, 3)), ("settle", 0), ("settle", 1))
        self.assertEqual(boards_exchanged(house, (2, 0, 1)),
                         (((SWAP, 0), (ONCE, 0), (PLAIN, 1)), (((0, 4), moved), ((3, 2), moved))))
        moved = (("do", 2, 0, (1, 1)), ("do", 0, 1, (2,)), ("do", 1, 0, (3, 3)), ("settle", 0), ("settle", 1))
        self.assertEqual(boards_exchanged(house, (1, 2, 0)),
                         (((PLAIN, 1), (SWAP, 0), (ONCE, 0)), (((0, 4), moved), ((3, 2), moved))))
        self.assertEqual(boards_exchanged(house, (0, 1, 2)), house)

    def test_a_settle_is_no_do(self):
        # The values on which it settles are no boards.
        for order in ((1, 0), (0, 1)):
            new = boards_exchanged((((ONE, 0), (PLAIN, 0)), EACH_ITS_OWN[1]), order)
            self.assertEqual(new[1], EACH_ITS_OWN[1])

    def test_no_boards(self):
        self.assertEqual(boards_exchanged(EACH_ITS_OWN, ()), EACH_ITS_OWN)
        self.assertEqual(hands_exchanged(((), (PUTS, ("a",))), (1, 0)), ((), (("a",), PUTS)))

    def test_hands_of_any_house(self):
        seen = set()
        for house, stands in sample():
            many = len(house[1])
            for order in itertools.permutations(range(many)):
                new = hands_exchanged(house, order)
                self.assertEqual(new, (house[0], tuple(house[1][k] for k in order)))
                self.look_at(house, stands, new, order, range(len(house[0])))
                back = tuple(order.index(k) for k in range(many))
                self.assertEqual(hands_exchanged(new, back), house)
                seen.add(order)
        self.assertEqual(len(seen), 2 + 6)

    def test_boards_of_any_house(self):
        seen = set()
        for house, stands in sample(15, 50):
            many = len(house[0])
            for order in itertools.permutations(range(many)):
                new = boards_exchanged(house, order)
                self.assertEqual(new[0], tuple(house[0][k] for k in order))
                self.look_at(house, stands, new, range(len(house[1])), order)
                back = tuple(order.index(k) for k in range(many))
                self.assertEqual(boards_exchanged(new, back), house)
                seen.add(order)
        self.assertEqual(len(seen), 1 + 1 + 2 + 6 + 24)

    def test_both(self):
        house = GOOD_BY_ONCE
        new = hands_exchanged(boards_exchanged(house, (0, 2, 1)), (1, 0))
        self.look_at(house, all_stands(house), new, (1, 0), (0, 2, 1))
        # Of two such hands, each laying on its own board, only the first states are others.
        self.assertEqual(new[1], house[1])
        self.assertEqual(new[0], (house[0][0], house[0][2], house[0][1]))

    def test_a_rebuilt_house(self):
        new = rebuilt(GOOD_BY_ONCE, 0)[0]
        order = (3, 1, 0, 2)
        self.look_at(new, all_stands(new), boards_exchanged(new, order), range(2), order)
        new = rebuilt(GOOD_OF_THREE, 0)[0]
        self.look_at(new, all_stands(new), hands_exchanged(new, (2, 0, 1)), (2, 0, 1), range(len(new[0])))

    def test_arguments_by_their_names(self):
        self.assertEqual(hands_exchanged(order=(0, 1), house=WAITING), WAITING)
        self.assertEqual(boards_exchanged(order=(0,), house=WAITING), WAITING)


class Trimmed(unittest.TestCase):
    def look_at(self, house, stands):
        new, lines, boards = told = trimmed(house, 2000)
        self.assertIs(look(new), True)
        self.assertLessEqual(kinds_within(told), {tuple, int, str})
        come = [tuple(sorted({stand[0][k] for stand in stands})) for k in range(len(house[1]))]
        self.assertEqual(lines, tuple(come))
        left = [house[1][k][1][n] for k, own in enumerate(lines) for n in own]
        self.assertEqual(boards, tuple(sorted({line[1] for line in left if line[0] == "do"})))
        self.assertEqual(new[0], tuple(house[0][b] for b in boards))
        for k, own in enumerate(lines):
            self.look_at_hand(house[1][k], new[1][k], own, boards)
        self.look_at_stands(house, stands, new, lines, boards)
        return told

    def look_at_hand(self, old, hand, own, boards):
        self.assertEqual(tuple(own[n] for n in hand[0]), old[0])
        self.assertEqual(len(hand[1]), len(own))
        for n, line in zip(own, hand[1]):
            if line[0] == "settle":
                self.assertEqual(line, old[1][n])
            else:
                self.assertEqual(("do", boards[line[1]], line[2]), old[1][n][:3])
                self.assertEqual(line[3], tuple(own.index(goal) if goal in own else 0 for goal in old[1][n][3]))

    def look_at_stands(self, house, stands, new, lines, boards):
        def told(stand):
            return (tuple(own[n] for own, n in zip(lines, stand[0])), stand[1])

        def fewer(stand):
            return (stand[0], tuple(stand[1][b] for b in boards))

        others = stands_of(new, 2000)
        self.assertEqual([told(stand) for stand in others], [fewer(stand) for stand in stands])
        self.assertEqual(paper_of(new, 2000)[0], paper_of(house, 2000)[0])
        numbers, falls = numbers_of(house, 2000), numbers_of(new, 2000)
        self.assertEqual(falls and list(falls.values()), numbers and list(numbers.values()))
        for stand, other in list(zip(stands, others))[::5]:
            self.assertEqual(ends_of(new, other), ends_of(house, stand))

    def test_written_out(self):
        begins, lines = PUTS
        hand = ((1, 3), (("settle", 1), ("do", 1, 0, (4, 2, 5)), ("do", 0, 0, (0, 0)), ("do", 1, 1, (0, 2, 5)),
                         ("do", 2, 0, (4,)), ("settle", 1), ("settle", 0)))
        house = (((PLAIN, 1), (FIRST, 0), (ONE, 0)), (hand, (begins, tuple(
            line if line[0] == "settle" else ("do", 1) + line[2:] for line in lines))))
        new, kept, boards = trimmed(house)
        # Answer 1: line 2, then 0; answer 2: line 5. Lines 4 and 6 are never come to, nor board 2.
        self.assertEqual(kept, ((0, 1, 2, 3, 5), (0, 1, 2, 3)))
        self.assertEqual(boards, (0, 1))
        self.assertEqual(new[0], ((PLAIN, 1), (FIRST, 0)))
        self.assertEqual(new[1][0], ((1, 3), (("settle", 1), ("do", 1, 0, (0, 2, 4)), ("do", 0, 0, (0, 0)),
                                              ("do", 1, 1, (0, 2, 4)), ("settle", 1))))

    def test_a_goal_that_is_left_out_gives_way_to_line_0(self):
        # Its line 0 is left out, too: line 0 of the new ones is another one then.
        hand = ((1, 1), (("settle", 0), ("do", 0, 0, (0, 2)), ("do", 0, 0, (0, 3)), ("settle", 1)))
        told = trimmed((((PLAIN, 1),), (hand, hand)))
        new = ((0, 0), (("do", 0, 0, (0, 1)), ("do", 0, 0, (0, 2)), ("settle", 1)))
        self.assertEqual(told, ((((PLAIN, 1),), (new, new)), ((1, 2, 3), (1, 2, 3)), (0,)))

    def test_boards(self):
        # Of four boards only the last one is used by a line that is come to.
        hand = ((1, 1), (("do", 0, 0, (0, 0)), ("do", 3, 0, (2,)), ("settle", 0), ("do", 2, 0, (0, 0))))
        house = (((PLAIN, 1), (SWAP, 1), (PLAIN, 0), (ONE, 0)), (hand, hand, hand))
        new, lines, boards = trimmed(house)
        self.assertEqual(boards, (3,))
        self.assertEqual(lines, ((1, 2),) * 3)
        self.assertEqual(new, (((ONE, 0),), (((0, 0), (("do", 0, 0, (1,)), ("settle", 0))),) * 3))
        new, lines, boards = trimmed(((((COUNT, 2)), (PLAIN, 0)), EACH_ITS_OWN[1]))
        self.assertEqual((new, lines, boards), (EACH_ITS_OWN, ((0, 1), (0, 1)), ()))

    def test_nothing_to_trim(self):
        for house in (GOOD_OF_TWO, GOOD_OF_THREE, GOOD_BY_ONCE, EACH_ITS_OWN, ALWAYS_NOUGHT, RACE_OF_TWO):
            lines = tuple(tuple(range(len(hand[1]))) for hand in house[1])
            self.assertEqual(trimmed(house), (house, lines, tuple(range(len(house[0])))))

    def test_of_any_house(self):
        fewer = 0
        for house, stands in sample(80, 150):
            new, lines, boards = self.look_at(house, stands)
            fewer += len(boards) < len(house[0]) and sum(map(len, lines)) < sum(len(own) for b, own in house[1])
            self.assertEqual(trimmed(new, 2000)[0], new)
        self.assertGreater(fewer, 30)

    def test_of_rebuilt_houses(self):
        houses = [pact_first(2), pact_first(3), pact_of(swap(2))]
        houses += [house for house, stands in small_houses(20, 300, good_house, 60)]
        for house in houses:
            for board in range(len(house[0])):
                new = rebuilt(house, board)[0]
                stands = all_stands(new)
                if stands is not None and len(stands) <= 400:
                    self.look_at(new, stands)
                    self.assertEqual(paper_of(trimmed(new)[0])[0], "good")

    def test_too_many(self):
        for house in (GOOD_OF_TWO, GOOD_BY_ONCE, EACH_ITS_OWN, WAITING, RACE_OF_THREE):
            many = len(all_stands(house))
            self.assertEqual(trimmed(house, many), trimmed(house))
            for most in range(0, many, 1 + many // 5):
                with self.assertRaises(TooMany) as taken:
                    trimmed(house, most)
                self.assertEqual(taken.exception.most, most)
        with self.assertRaises(TooMany) as taken:
            trimmed(wide(8))
        self.assertEqual(taken.exception.most, 500)
        self.assertEqual(trimmed(slow_good(0, 162))[2], (0, 1))
        with self.assertRaises(TooMany):
            trimmed(slow_good(1, 161))

    def test_arguments_by_their_names(self):
        self.assertEqual(trimmed(most=14, house=GOOD_OF_TWO), trimmed(GOOD_OF_TWO))


if __name__ == "__main__":
    unittest.main()
