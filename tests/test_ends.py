"""Promises [18], [19] and [20]: ends, ways to them, critical stands."""

import itertools
import unittest

from pactboards.ends import critical, ends_of, way_to
from pactboards.errors import TooMany
from pactboards.tables import is_meek, is_plain

from samples import (
    ALWAYS_NOUGHT, EACH_ITS_OWN, GOOD_BY_ONCE, GOOD_OF_THREE, GOOD_OF_TWO, ONE, PLAIN, WAITING, after, after_all,
    all_stands, any_house, chain, every_stand, house_of_words, kinds_within, least_turns, led_from, movers, near_good,
    small_houses, spread, values, word_of)

ENDLESS = (((ONE, 0),), (((0, 0), (("do", 0, 0, (0,)),)),) * 2)
# Hand 0 settles on what the board shows; hand 1 lays 1, then 0, then stays.
LOOKING = (((PLAIN, 0),), (
    ((0, 0), (("do", 0, 0, (1, 2)), ("settle", 0), ("settle", 1))),
    ((0, 0), (("do", 0, 2, (1,)), ("do", 0, 1, (2,)), ("do", 0, 0, (2, 2))))))


def ends(house, stand):
    found = set()
    for there in led_from(house, stand):
        found |= values(house, there)
    return tuple(sorted(found))


def sample(many=60):
    yield from [(house, all_stands(house)) for house in (
        GOOD_OF_TWO, GOOD_OF_THREE, GOOD_BY_ONCE, EACH_ITS_OWN, ALWAYS_NOUGHT, WAITING, ENDLESS, LOOKING)]
    for seed, make in ((180, any_house), (181, house_of_words), (182, near_good)):
        yield from small_houses(many, seed, make, 60)


def some_stands(house, many=25):
    """Stands to which turns may lead or not."""
    total = sum(1 for stand in every_stand(house))
    return itertools.islice(every_stand(house), 0, None, 1 + total // many)


class Ends(unittest.TestCase):
    def test_written_out(self):
        self.assertEqual(ends_of(ENDLESS, ((0, 0), (0,))), ())
        self.assertEqual(ends_of(GOOD_OF_TWO, ((0, 0), (0,))), (0,))
        self.assertEqual(ends_of(GOOD_OF_TWO, ((1, 1), (0,))), (1,))
        self.assertEqual(ends_of(GOOD_OF_TWO, ((0, 1), (0,))), (0, 1))
        self.assertEqual(ends_of(GOOD_OF_TWO, ((1, 0), (0,))), (0, 1))
        self.assertEqual(ends_of(GOOD_OF_TWO, ((0, 1), (1,))), (0,))
        self.assertEqual(ends_of(GOOD_OF_TWO, ((3, 3), (2,))), (1,))

    def test_settled_there(self):
        for lines, wanted in (((0, 0), (0,)), ((0, 1), (0, 1)), ((1, 0), (0, 1)), ((1, 1), (1,))):
            self.assertEqual(ends_of(EACH_ITS_OWN, (lines, ())), wanted)

    def test_a_stand_to_which_no_turns_lead(self):
        # Hand 0 has settled on 0 while the board keeps 1: it never comes to that.
        self.assertEqual(ends_of(GOOD_OF_TWO, ((2, 1), (2,))), (0, 1))
        self.assertNotIn(((2, 1), (2,)), all_stands(GOOD_OF_TWO))
        self.assertEqual(ends_of(WAITING, ((0, 0), (1,))), (0,))
        self.assertEqual(ends_of(WAITING, ((0, 0), (0,))), ())

    def test_rounds_on_the_way(self):
        self.assertEqual(ends_of(LOOKING, ((0, 0), (0,))), (0, 1))
        self.assertEqual(ends_of(LOOKING, ((0, 2), (0,))), (0,))
        self.assertEqual(ends_of(LOOKING, ((0, 2), (1,))), (1,))

    def test_of_any_house(self):
        told = set()
        for house, stands in sample():
            for stand in itertools.chain(stands[::3], some_stands(house)):
                wanted = ends(house, stand)
                found = ends_of(house, stand)
                self.assertEqual(found, wanted, (house, stand))
                self.assertLessEqual(kinds_within(found), {tuple, int})
                told.add(found)
        self.assertEqual(told, {(), (0,), (1,), (0, 1)})

    def test_each_stand_is_gone_through_once(self):
        self.assertEqual(ends_of(spread(10), ((0, 0, 0), (0, 0, 0))), (0,))
        self.assertEqual(ends_of(chain(1000), ((0, 0), (0,))), (0,))

    def test_arguments_by_their_names(self):
        self.assertEqual(ends_of(stand=((0, 1), (0,)), house=GOOD_OF_TWO), (0, 1))


class Ways(unittest.TestCase):
    def test_written_out(self):
        self.assertEqual(way_to(GOOD_OF_TWO, ((0, 1), (0,)), 0), (0,))
        self.assertEqual(way_to(GOOD_OF_TWO, ((0, 1), (0,)), 1), (1,))
        self.assertEqual(way_to(GOOD_OF_TWO, ((0, 0), (0,)), 0), (0,))
        self.assertIsNone(way_to(GOOD_OF_TWO, ((0, 0), (0,)), 1))
        self.assertIsNone(way_to(ENDLESS, ((0, 0), (0,)), 0))
        self.assertEqual(way_to(LOOKING, ((0, 0), (0,)), 1), (1, 0))
        self.assertEqual(way_to(LOOKING, ((0, 1), (1,)), 0), (1, 0))

    def test_settled_on_it_there(self):
        self.assertEqual(way_to(GOOD_OF_TWO, ((0, 2), (1,)), 0), ())
        self.assertEqual(way_to(GOOD_OF_TWO, ((2, 3), (1,)), 1), ())
        self.assertEqual(way_to(EACH_ITS_OWN, ((0, 1), ()), 0), ())
        self.assertEqual(way_to(EACH_ITS_OWN, ((0, 1), ()), 1), ())
        self.assertIsNone(way_to(EACH_ITS_OWN, ((0, 0), ()), 1))

    def test_the_fewest_and_of_several_the_least(self):
        # Hand 0 needs three deeds, hands 1 and 2 two each.
        def slow(many):
            return ((0, 0), tuple(("do", 0, 0, (n + 1,)) for n in range(many)) + (("settle", 0),))
        board = ((ONE, 0),)
        stand = ((0, 0, 0), (0,))
        self.assertEqual(way_to((board, (slow(3), slow(2), slow(2))), stand, 0), (1, 1))
        self.assertEqual(way_to((board, (slow(3), slow(3), slow(2))), stand, 0), (2, 2))
        self.assertEqual(way_to((board, (slow(2), slow(2), slow(2))), stand, 0), (0, 0))
        # Hand 0 settles behind any deed of hand 1 that lays 1, which comes last: so do its looks ahead of it.
        waits = ((0, 0), (("do", 0, 0, (1, 2)), ("do", 0, 0, (1, 2)), ("settle", 1)))
        lays = ((0, 0), (("do", 0, 1, (1,)), ("do", 0, 2, (2,)), ("do", 0, 0, (2, 2))))
        self.assertEqual(way_to((((PLAIN, 0),), (waits, lays)), ((0, 0), (0,)), 1), (1, 1, 0))
        self.assertEqual(way_to((((PLAIN, 0),), (lays, waits)), ((0, 0), (0,)), 1), (0, 0, 1))

    def test_of_any_house(self):
        lengths = set()
        for house, stands in sample():
            for stand in itertools.chain(stands[::4], some_stands(house)):
                for value in (0, 1):
                    found = way_to(house, stand, value)
                    wanted = least_turns(house, stand, lambda there: value in values(house, there))
                    self.assertEqual(found, wanted, (house, stand, value))
                    self.assertEqual(found is None, value not in ends_of(house, stand))
                    if found is not None:
                        self.assertLessEqual(kinds_within(found), {tuple, int})
                        self.assertIn(value, values(house, after_all(house, stand, found)))
                        lengths.add(len(found))
        self.assertGreaterEqual(lengths, {0, 1, 2, 3, 4})

    def test_no_turn_of_a_settled_hand(self):
        for house, stands in sample(30):
            for stand, value in itertools.product(some_stands(house, 10), (0, 1)):
                for hand in way_to(house, stand, value) or ():
                    self.assertIn(hand, movers(house, stand))
                    stand = after(house, stand, hand)

    def test_a_long_way(self):
        lines = tuple(("do", 0, 0, (n + 1,)) for n in range(900)) + (("settle", 1),)
        house = (((ONE, 0),), (((0, 0), (("settle", 0),)), ((0, 0), lines)))
        self.assertEqual(way_to(house, ((0, 0), (0,)), 1), (1,) * 900)
        self.assertEqual(ends_of(house, ((0, 0), (0,))), (0, 1))

    def test_arguments_by_their_names(self):
        self.assertEqual(way_to(value=1, stand=((0, 1), (0,)), house=GOOD_OF_TWO), (1,))


class Critical(unittest.TestCase):
    def wanted(self, house, stands):
        is_open = {stand: ends(house, stand) == (0, 1) for stand in stands}
        return [stand for stand in stands if is_open[stand]
                and not any(is_open[after(house, stand, hand)] for hand in movers(house, stand))]

    def test_written_out(self):
        self.assertEqual(critical(GOOD_OF_TWO), [((0, 1), (0,)), ((1, 0), (0,))])
        self.assertEqual(critical(ENDLESS), [])
        self.assertEqual(critical(ALWAYS_NOUGHT), [])

    def test_open_and_without_free_hands(self):
        self.assertEqual(critical(EACH_ITS_OWN), [((0, 1), ()), ((1, 0), ())])

    def test_a_turn_that_leads_to_an_open_one(self):
        # Behind hand 1's first turn both are still there; the stand ahead of it isn't critical.
        self.assertEqual(critical(LOOKING), self.wanted(LOOKING, all_stands(LOOKING)))
        self.assertEqual(critical(LOOKING), [((0, 1), (1,))])

    def test_of_any_house(self):
        many = []
        for house, stands in sample(120):
            told = critical(house)
            self.assertIs(told.__class__, list)
            self.assertEqual(told, self.wanted(house, stands), house)
            many.append(len(told))
        self.assertGreater(max(many), 5)
        self.assertIn(0, many)
        self.assertIn(1, many)

    def test_in_a_good_house(self):
        asked = 0
        for house, stands in sample(150):
            if word_of(house, stands) != "good":
                continue
            asked += 1
            told = critical(house)
            self.assertGreater(len(told), 0, house)
            for stand, i, j in itertools.product(told, range(len(house[1])), range(len(house[1]))):
                free = movers(house, stand)
                if i in free and j in free and ends_of(house, after(house, stand, i)) != ends_of(
                        house, after(house, stand, j)):
                    boards = {house[1][k][1][stand[0][k]][1] for k in (i, j)}
                    self.assertEqual(len(boards), 1)
                    table = house[0][boards.pop()][0]
                    self.assertFalse(is_plain(table))
                    self.assertFalse(len(house[1]) == 3 and is_meek(table))
        self.assertGreater(asked, 50)

    def test_a_new_list_each_time(self):
        once = critical(GOOD_OF_TWO)
        kept = list(once)
        once.clear()
        again = critical(GOOD_OF_TWO)
        self.assertEqual(again, kept)
        again.append("more")
        self.assertEqual(critical(GOOD_OF_TWO), kept)

    def test_each_stand_is_gone_through_once(self):
        self.assertEqual(critical(spread(15), 4000), [])
        self.assertEqual(critical(chain(4000), 4000), [])

    def test_too_many_goes_ahead_of_all_else(self):
        for house in (GOOD_OF_TWO, GOOD_OF_THREE, EACH_ITS_OWN, LOOKING, chain(3)):
            many = len(all_stands(house))
            self.assertEqual(critical(house, many), critical(house))
            for most in (many - 1, 1):
                with self.assertRaises(TooMany) as taken:
                    critical(house, most)
                self.assertEqual(taken.exception.most, most)

    def test_most_left_out_is_500(self):
        self.assertEqual(critical(chain(500)), [])
        with self.assertRaises(TooMany) as taken:
            critical(chain(501))
        self.assertEqual(taken.exception.most, 500)

    def test_arguments_by_their_names(self):
        self.assertEqual(critical(most=14, house=GOOD_OF_TWO), [((0, 1), (0,)), ((1, 0), (0,))])


if __name__ == "__main__":
    unittest.main()
