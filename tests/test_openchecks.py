"""Promise [23], what it says of the checker."""

import copy
import unittest

from pactboards.checks import holds
from pactboards.errors import NotMeek, TooMany
from pactboards.keptopen import kept_open
from pactboards.openchecks import holds_open
from pactboards.papers import paper_of

from samples import (
    ALWAYS_NOUGHT, EACH_ITS_OWN, FIRST, GOOD_OF_THREE, GOOD_OF_TWO, ONE, PLAIN, RACE_OF_THREE, RACE_OF_TWO, SWAP,
    WAITING, after_all, all_inputs, all_stands, deeds_left, first_stand, led_from, movers, near_race, own_round,
    small_houses, values, wide)

OWN = ((0, 1), (("settle", 0), ("settle", 1)))
NEVER = ((0, 0), (("do", 0, 0, (0,)),))
# Each lays its own, and settles on it.
HASTY = ((0, 1), (("do", 0, 1, (2,)), ("do", 0, 2, (3,)), ("settle", 0), ("settle", 1)))
UNSAFE = (((PLAIN, 0),), (HASTY, HASTY))
# The one waits until the board shows a 1, which the other lays again and again.
WAITER = ((0, 1), (("do", 0, 0, (0, 2)), ("do", 0, 0, (1, 3)), ("settle", 0), ("settle", 1)))
STARTER = ((0, 0), (("do", 0, 2, (1,)), ("do", 0, 2, (1,))))
# Three hands: two of them go on for ever, one settles behind a deed.
MIXED = (((ONE, 0),), (NEVER, ((0, 1), (("do", 0, 0, (2,)), ("do", 0, 0, (3,)), ("settle", 0), ("settle", 1))), NEVER))


class Checked(unittest.TestCase):
    def yes(self, house, *paper):
        self.assertIs(holds_open(house, paper), True, paper)

    def no(self, house, *paper):
        self.assertIs(holds_open(house, paper), False, paper)


class Refused(unittest.TestCase):
    def test_as_kept_open_refuses(self):
        papers = (("unsafe", ("unlike", (), ())), ("alone", (5,), (), 7), ("open", (), (), (), ()))
        cases = ((GOOD_OF_TWO, 0), (GOOD_OF_THREE, 0), (((((PLAIN, 0), (SWAP, 0))), (OWN, OWN)), 1),
                 ((((SWAP, 0), (PLAIN, 0), (FIRST, 0)), (OWN,) * 3), 2), ((wide(6)[0] + ((FIRST, 0),), wide(6)[1]), 3))
        for house, board in cases:
            for paper in papers:
                for most in (1, 500):
                    with self.assertRaises(NotMeek) as taken:
                        holds_open(house, paper, most)
                    self.assertEqual(taken.exception.board, board)

    def test_too_many(self):
        for house in (RACE_OF_TWO, RACE_OF_THREE, UNSAFE, MIXED):
            many = len(all_stands(house))
            for paper in (kept_open(house), ("unsafe", ("round", (), (), ())), ("alone", (5,), (), 7),
                          ("open", (), (), (), ())):
                self.assertEqual(holds_open(house, paper, many), paper == kept_open(house))
                for most in (many - 1, 1):
                    with self.assertRaises(TooMany) as taken:
                        holds_open(house, paper, most)
                    self.assertEqual(taken.exception.most, most)

    def test_most_left_out_is_500(self):
        for many, refused in ((500, False), (501, True)):
            lines = tuple(("do", 0, 0, ((n + 1) % many,)) for n in range(many))
            house = (((ONE, 0),), (((0, 0), lines), ((0, 0), (("settle", 0),))))
            paper = ("alone", (0, 0), (), 0)
            self.assertIs(holds_open(house, paper, 501), True)
            if refused:
                with self.assertRaises(TooMany) as taken:
                    holds_open(house, paper)
                self.assertEqual(taken.exception.most, 500)
            else:
                self.assertIs(holds_open(house, paper), True)

    def test_most_also_for_the_paper_within(self):
        lines = tuple(("do", 0, 0, (n + 1,)) for n in range(600)) + (("settle", 0),)
        house = (((ONE, 0),), (((0, 0), lines), OWN))
        paper = ("unsafe", ("unlike", (0, 1), (0,) * 600))
        self.assertIs(holds_open(house, paper, 4000), True)


class Unsafe(Checked):
    def test_what_is_told(self):
        for house in (UNSAFE, EACH_ITS_OWN, ALWAYS_NOUGHT):
            self.yes(house, *kept_open(house))

    def test_turns_longer_than_needed(self):
        waiter = ((0, 1), (("do", 0, 0, (2, 2)), ("do", 0, 0, (3, 3)), ("settle", 0), ("settle", 1)))
        house = (((PLAIN, 0),), (HASTY, waiter, NEVER[:1] + ((("do", 0, 0, (0, 0)),),)))
        self.yes(house, "unsafe", ("unlike", (0, 1, 0), (2, 0, 2, 2, 1, 2)))
        self.yes(house, "unsafe", ("unlike", (0, 1, 0), [0, 1]))

    def test_another_paper_may_stand_ahead(self):
        # Settled on 0 whatever was begun with, and unlike, too.
        house = ((), (((0, 0), (("settle", 0),)), OWN))
        self.assertEqual(paper_of(house)[0], "unlike")
        self.yes(house, "unsafe", ("strange", (1, 1), ()))

    def test_a_paper_that_does_not_hold(self):
        self.no(UNSAFE, "unsafe", ("unlike", (0, 1), (0,)))
        self.no(UNSAFE, "unsafe", ("unlike", (0, 0), (0, 1)))
        self.no(UNSAFE, "unsafe", ("unlike", (0, 1), (0, 0, 1)))
        self.no(UNSAFE, "unsafe", ("unlike", (0, 1), (0, 1, 2)))
        self.no(UNSAFE, "unsafe", ("unlike", (0, 1), (0, -1)))
        self.no(UNSAFE, "unsafe", ("unlike", (0,), (0, 1)))
        self.no(UNSAFE, "unsafe", ("unlike", (0, 2), (0, 1)))
        self.no(UNSAFE, "unsafe", ("strange", (0, 1), (0, 1)))
        self.no(RACE_OF_TWO, "unsafe", ("unlike", (0, 1), (0, 1, 0, 1)))

    def test_one_that_is_neither_unlike_nor_strange(self):
        never = (((ONE, 0),), (NEVER, NEVER))
        paper = ("round", (0, 0), (), (0,))
        self.assertIs(holds(never, paper), True)
        self.no(never, "unsafe", paper)
        self.no(RACE_OF_TWO, "unsafe", paper_of(RACE_OF_TWO))
        self.no(UNSAFE, "unsafe", ("good", deeds_left(UNSAFE, all_stands(UNSAFE))))
        self.no(never, "unsafe", ("good", {}))
        self.no(UNSAFE, "unsafe", ("round", (9,), (9,), ()))


class Alone(Checked):
    def test_what_is_told(self):
        for house in (WAITING, MIXED, (((PLAIN, 0),), (WAITER, STARTER))):
            self.assertEqual(kept_open(house)[0], "alone")
            self.yes(house, *kept_open(house))

    def test_each_stand_and_hand(self):
        for house in (MIXED, WAITING, (((PLAIN, 0),), (WAITER, STARTER)), UNSAFE):
            for inputs in all_inputs(house):
                for turns in ((), (0,), (1,), (0, 0), (0, 1), (1, 0), (1, 1), (1, 0, 1)):
                    stand = first_stand(house, inputs)
                    fine = all(turns[k] in movers(house, after_all(house, stand, turns[:k]))
                               for k in range(len(turns)))
                    stand = after_all(house, stand, turns)
                    for k in range(-4, 6):
                        wanted = fine and k in movers(house, stand) and own_round(house, stand, k)
                        self.assertIs(holds_open(house, ("alone", inputs, turns, k)), wanted)
                        self.assertIs(holds_open(house, ("alone", inputs, list(turns), k)), wanted)

    def test_a_hand_that_is_none(self):
        for k in (-1, -2, -3, 3, 4, 100, 10 ** 20):
            self.no(MIXED, "alone", (0, 0, 0), (), k)
        for k in (0, 2):
            self.yes(MIXED, "alone", (0, 0, 0), (), k)

    def test_a_hand_that_settles_or_has_settled(self):
        self.no(MIXED, "alone", (0, 0, 0), (), 1)
        self.no(MIXED, "alone", (0, 0, 0), (1,), 1)
        self.no(MIXED, "alone", (0, 0, 0), (0, 1, 2), 1)

    def test_turns_longer_than_needed(self):
        self.yes(MIXED, "alone", (0, 1, 0), (0, 2, 2, 1, 0, 0), 2)
        self.yes(MIXED, "alone", (0, 1, 0), (0,) * 200, 0)

    def test_turns_that_do_not_hold(self):
        for turns in ((3,), (-1,), (0, 5), (1, 1), (1, 0, 1), (10 ** 20,)):
            self.no(MIXED, "alone", (0, 0, 0), turns, 0)

    def test_inputs_that_are_none(self):
        for inputs in ((), (0,), (0, 0), (0, 0, 0, 0), (0, 2, 0), (0, -1, 0), (5, 5, 5)):
            self.no(MIXED, "alone", inputs, (), 0)

    def test_an_unsafe_house_may_have_one(self):
        house = (((ONE, 0),), (OWN, OWN, NEVER))
        self.assertEqual(kept_open(house)[0], "unsafe")
        self.yes(house, "alone", (0, 1, 0), (2,), 2)


class Open(Checked):
    def setUp(self):
        self.inputs, self.turns, self.again, self.ways = kept_open(RACE_OF_TWO)[1:]

    def bent(self, **parts):
        told = {"inputs": self.inputs, "turns": self.turns, "again": self.again, "ways": self.ways}
        told.update(parts)
        return ("open", told["inputs"], told["turns"], told["again"], told["ways"])

    def ways_along(self, house, inputs, turns):
        stand = first_stand(house, inputs)
        return tuple(tuple(self.some_way(house, after_all(house, stand, turns[:k]), v) for v in (0, 1))
                     for k in range(len(turns)))

    def some_way(self, house, stand, value):
        """Turns by one hand alone that settles on the value, or by one behind a turn of the other."""
        for turns in [(k,) * m for k in movers(house, stand) for m in range(9)] + [
                (1 - k,) * n + (k,) * m for k in (0, 1) for n in range(5) for m in range(9)]:
            here = stand
            for place, hand in enumerate(turns):
                if hand not in movers(house, here):
                    break
                here = after_all(house, here, (hand,))
            else:
                if value in values(house, here):
                    return turns
        return None

    def test_what_is_told(self):
        self.yes(RACE_OF_TWO, *self.bent())
        self.yes(RACE_OF_THREE, *kept_open(RACE_OF_THREE))

    def test_rows_of_any_kind(self):
        self.yes(RACE_OF_TWO, *self.bent(turns=list(self.turns), again=list(self.again)))
        self.yes(RACE_OF_TWO, *self.bent(turns=list(self.turns), again=self.again))
        self.yes(RACE_OF_TWO, *self.bent(ways=[(list(one), other) for one, other in self.ways]))

    def test_turns_longer_than_needed(self):
        # Once round ahead of the round, twice round as the round, or from further on.
        longer = self.turns + self.again
        self.yes(RACE_OF_TWO, *self.bent(turns=longer, ways=self.ways + self.ways[len(self.turns):]))
        self.yes(RACE_OF_TWO, *self.bent(again=self.again * 2, ways=self.ways + self.ways[len(self.turns):]))
        for k in range(len(self.again)):
            turned = self.again[k:] + self.again[:k]
            turns = self.turns + self.again[:k]
            ways = self.ways_along(RACE_OF_TWO, self.inputs, turns + turned)
            self.yes(RACE_OF_TWO, "open", self.inputs, turns, turned, ways)

    def test_ways_longer_than_needed(self):
        ways = self.ways_along(RACE_OF_TWO, self.inputs, self.turns + self.again)
        self.yes(RACE_OF_TWO, *self.bent(ways=ways))
        stand = first_stand(RACE_OF_TWO, self.inputs)
        for place, pair in enumerate(ways):
            here = after_all(RACE_OF_TWO, stand, (self.turns + self.again)[:place])
            for value in (0, 1):
                there = after_all(RACE_OF_TWO, here, pair[value])
                more = pair[value] + tuple(movers(RACE_OF_TWO, there)[:1])
                self.yes(RACE_OF_TWO, *self.bent(ways=self.with_way(ways, place, value, more)))
                # Once round, and then the way.
                self.yes(RACE_OF_TWO, *self.bent(ways=self.with_way(ways, place, value, self.round_at(
                    place) + pair[value])))

    def round_at(self, place):
        """Turns from a stand on the way back to it, or none ahead of the round."""
        off = place - len(self.turns)
        return () if off < 0 else self.again[off:] + self.again[:off]

    def with_way(self, ways, place, value, turns):
        pair = list(ways[place])
        pair[value] = turns
        return ways[:place] + (tuple(pair),) + ways[place + 1:]

    def test_inputs_that_are_none(self):
        for inputs in ((), (0,), (0, 1, 0), (0, 2), (-1, 1), (0, -1)):
            self.no(RACE_OF_TWO, *self.bent(inputs=inputs))

    def test_other_inputs(self):
        for inputs in ((0, 0), (1, 1)):
            self.no(RACE_OF_TWO, *self.bent(inputs=inputs))

    def test_a_turn_that_is_no_hands(self):
        for wrong in (-1, -2, 2, 3, 10 ** 20):
            for k in range(len(self.turns)):
                self.no(RACE_OF_TWO, *self.bent(turns=self.turns[:k] + (wrong,) + self.turns[k + 1:]))
            for k in range(len(self.again)):
                self.no(RACE_OF_TWO, *self.bent(again=self.again[:k] + (wrong,) + self.again[k + 1:]))
            for place, pair in enumerate(self.ways):
                for value in (0, 1):
                    for bent in ((wrong,) + pair[value], pair[value] + (wrong,)):
                        self.no(RACE_OF_TWO, *self.bent(ways=self.with_way(self.ways, place, value, bent)))

    def test_a_settled_hands_turn(self):
        # In ways: the hand that has settled once more.
        stand = first_stand(RACE_OF_TWO, self.inputs)
        for place, pair in enumerate(self.ways):
            here = after_all(RACE_OF_TWO, stand, (self.turns + self.again)[:place])
            for value in (0, 1):
                there = after_all(RACE_OF_TWO, here, pair[value])
                for hand in {0, 1} - set(movers(RACE_OF_TWO, there)):
                    more = pair[value] + (hand,)
                    self.no(RACE_OF_TWO, *self.bent(ways=self.with_way(self.ways, place, value, more)))
        # In turns and again: hand 0 has settled at the begin; hand 1 lays 0 and 1 by turns, hand 2 takes what it sees.
        taking = ((0, 0), (("do", 0, 0, (1, 2)), ("settle", 0), ("settle", 1)))
        laying = ((0, 0), (("do", 0, 1, (1,)), ("do", 0, 2, (0,))))
        house = (((PLAIN, 1),), (((0, 0), (("settle", 0),)), laying, taking))
        ways = (((), (2,)), ((), (1, 2)))
        self.yes(house, "open", (0, 0, 0), (), (1, 1), ways)
        self.no(house, "open", (0, 0, 0), (0,), (1, 1), (ways[0],) + ways)
        self.no(house, "open", (0, 0, 0), (), (0,), ways[:1])
        self.no(house, "open", (0, 0, 0), (), (1, 0, 1), (ways[0], ways[1], ways[1]))
        self.no(house, "open", (0, 0, 0), (), (1, 1), (((0,), ways[0][1]), ways[1]))

    def test_again_of_one_turn(self):
        looking = ((0, 0), (("do", 0, 0, (0, 0)),))
        laying = ((0, 0), (("do", 0, 2, (0,)),))
        taking = ((0, 0), (("do", 0, 0, (1, 2)), ("settle", 0), ("settle", 1)))
        house = (((PLAIN, 0),), (looking, laying, taking))
        ways = (((2,), (1, 2)),)
        self.yes(house, "open", (0, 0, 0), (), (0,), ways)
        self.yes(house, "open", (0, 0, 0), (0,), (0,), ways * 2)
        self.no(house, "open", (0, 0, 0), (), (1,), ways)

    def test_again_without_a_turn_or_not_back(self):
        self.no(RACE_OF_TWO, *self.bent(again=(), ways=self.ways[:len(self.turns)]))
        self.no(RACE_OF_TWO, *self.bent(again=()))
        self.no(RACE_OF_TWO, "open", self.inputs, (), (), ())
        for k in range(1, len(self.again)):
            fewer = self.again[:k]
            self.no(RACE_OF_TWO, *self.bent(again=fewer, ways=self.ways[:len(self.turns) + k]))
            self.no(RACE_OF_TWO, *self.bent(again=fewer))
        self.no(RACE_OF_TWO, *self.bent(turns=(), again=self.turns + self.again))

    def test_a_way_that_does_not_come_to_its_value(self):
        for place, pair in enumerate(self.ways):
            self.no(RACE_OF_TWO, *self.bent(ways=self.ways[:place] + (pair[::-1],) + self.ways[place + 1:]))
            for value in (0, 1):
                self.no(RACE_OF_TWO, *self.bent(ways=self.with_way(self.ways, place, value, ())))
                self.no(RACE_OF_TWO, *self.bent(ways=self.with_way(self.ways, place, value, pair[value][:-1])))
                self.no(RACE_OF_TWO, *self.bent(ways=self.with_way(self.ways, place, value, pair[1 - value])))

    def test_ways_too_few_or_too_many(self):
        self.no(RACE_OF_TWO, *self.bent(ways=()))
        self.no(RACE_OF_TWO, *self.bent(ways=self.ways[:-1]))
        self.no(RACE_OF_TWO, *self.bent(ways=self.ways[1:]))
        self.no(RACE_OF_TWO, *self.bent(ways=self.ways + (self.ways[len(self.turns)],)))
        self.no(RACE_OF_TWO, *self.bent(ways=self.ways + self.ways))

    def test_a_stand_on_the_way_that_is_not_open(self):
        # A round from whose stands only 1 is come to: no ways to 0 will do.
        lay = ((0, 0), (("do", 0, 2, (1,)), ("do", 0, 2, (0,))))
        take = ((0, 0), (("do", 0, 0, (1, 2)), ("settle", 0), ("settle", 1)))
        house = (((PLAIN, 1),), (lay, take))
        self.assertEqual(set().union(*[values(house, there) for there in led_from(house, ((0, 0), (1,)))]), {1})
        for way in ((), (0,), (1,), (0, 1), (1, 0)):
            self.no(house, "open", (0, 0), (), (0, 0), ((way, (1,)), (way, (1,))))
        # Open at first, not behind the laying.
        house = (((PLAIN, 0),), (lay, take))
        pair = ((1,), (0, 1))
        self.no(house, "open", (0, 0), (0,), (0, 0), (pair, ((1,), (1,)), ((1,), (1,))))
        self.no(house, "open", (0, 0), (0,), (0, 0), (pair, pair, pair))

    def test_what_stands_ahead_need_not_be_missing(self):
        # One hand goes on for ever by itself, and it is unsafe; open it is all the same.
        lay = ((0, 0), (("do", 0, 1, (1,)), ("do", 0, 2, (0,))))
        take = ((0, 0), (("do", 0, 0, (1, 2)), ("settle", 0), ("settle", 1)))
        house = (((PLAIN, 1),), (lay, take))
        self.assertEqual(kept_open(house)[0], "unsafe")
        ways = (((0, 1), (1,)), ((1,), (0, 1)))
        self.yes(house, "open", (0, 0), (), (0, 0), ways)
        self.yes(house, "open", (1, 0), (), (0, 0), ways)

    def test_of_drawn_houses(self):
        seen = 0
        for house, stands in small_houses(60, 235, near_race, 200):
            told = kept_open(house)
            self.yes(house, *told)
            if told[0] == "open":
                word, inputs, turns, again, ways = told
                self.no(house, word, inputs, turns, again, ways[:-1])
                self.no(house, word, inputs, turns, again, ways + ways[:1])
                self.no(house, word, inputs, turns, (), ways[:len(turns)])
                self.no(house, word, inputs, turns, again, ways[:-1] + ((ways[-1][1], ways[-1][0]),))
                seen += 1
        self.assertGreater(seen, 10)


class Handed(Checked):
    def test_the_paper_is_not_changed(self):
        numbers = deeds_left(UNSAFE, all_stands(UNSAFE))
        told = kept_open(RACE_OF_TWO)
        lists = ("open", told[1], list(told[2]), list(told[3]), [(list(one), list(other)) for one, other in told[4]])
        for house, paper in ((UNSAFE, ("unsafe", ("good", numbers))), (UNSAFE, ("unsafe", ("unlike", (0, 1), [0, 1]))),
                             (RACE_OF_TWO, lists), (MIXED, ("alone", (0, 0, 0), [0, 1], 2))):
            kept = copy.deepcopy(paper)
            first_time = holds_open(house, paper)
            self.assertEqual(paper, kept)
            self.assertIs(holds_open(house, paper), first_time)

    def test_arguments_by_their_names(self):
        self.assertIs(holds_open(most=52, paper=kept_open(RACE_OF_TWO), house=RACE_OF_TWO), True)


if __name__ == "__main__":
    unittest.main()
