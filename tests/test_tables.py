"""Promises [4] and [5]: what tables tell, and which are plain or meek."""

import itertools
import random
import unittest

from pactboards.tables import (
    answer, answers, is_laying, is_look, is_meek, is_plain, meek_at, next_state)

SIZES = tuple(itertools.product(range(1, 5), range(1, 5)))
TEST_AND_SET = (((0, 0), (1, 0)), ((1, 1), (1, 0)))
# Deed 0 takes state 0 to 1, deed 1 takes it to 2; both leave all else: the first one stays.
FIRST_OF_TWO = (((1, 1), (2, 2)), ((1, 1), (1, 1)), ((2, 2), (2, 2)))
PLAIN_OF_TWO = (((0, 0), (0, 0), (1, 0)), ((1, 1), (0, 0), (1, 0)))


def some_tables(states, deeds, many=12):
    """Tables of a size, the same in each run."""
    source = random.Random(100 * states + deeds)
    return [tuple(tuple((source.randrange(states), source.randrange(4)) for deed in range(deeds))
                  for state in range(states)) for k in range(many)]


def all_small_tables():
    """All tables of up to two states and two deeds with answers 0 and 1, and those of three states that lead only."""
    for states, deeds, told in ((1, 1, 4), (1, 2, 2), (2, 1, 3), (2, 2, 2), (3, 1, 2), (3, 2, 1)):
        pairs = list(itertools.product(range(states), range(told)))
        rows = list(itertools.product(pairs, repeat=deeds))
        yield from itertools.product(rows, repeat=states)


def led(table, state, deeds):
    for deed in deeds:
        state = table[state][deed][0]
    return state


def looks(table, deed):
    return [row[deed][0] for row in table] == list(range(len(table)))


def lays(table, deed):
    return len({row[deed][0] for row in table}) == 1 and {row[deed][1] for row in table} == {0}


def meek(table, one, other, state):
    both = led(table, state, (one, other))
    turned = led(table, state, (other, one))
    return (both == turned, both == led(table, state, (other,)), turned == led(table, state, (one,)))


class Numbers(unittest.TestCase):
    def whole(self, value, wanted):
        self.assertIs(value.__class__, int)
        self.assertEqual(value, wanted)

    def test_next_state_and_answer(self):
        for size in SIZES:
            for table in some_tables(*size):
                for state, deed in itertools.product(range(size[0]), range(size[1])):
                    with self.subTest(table=table, state=state, deed=deed):
                        self.whole(next_state(table, state, deed), table[state][deed][0])
                        self.whole(answer(table, state, deed), table[state][deed][1])

    def test_answers(self):
        for size in SIZES:
            for table in some_tables(*size):
                for deed in range(size[1]):
                    with self.subTest(table=table, deed=deed):
                        self.whole(answers(table, deed), max(row[deed][1] for row in table) + 1)

    def test_the_greatest_answer_may_be_in_any_state_of_any_deed(self):
        for states, deeds in SIZES:
            for place, own, most in itertools.product(range(states), range(deeds), range(1, 4)):
                table = tuple(tuple((0, most if (state, deed) == (place, own) else 0)
                                    for deed in range(deeds)) for state in range(states))
                for deed in range(deeds):
                    with self.subTest(table=table, deed=deed):
                        self.whole(answers(table, deed), most + 1 if deed == own else 1)

    def test_a_gap_among_the_answers_is_counted(self):
        self.whole(answers((((0, 3),), ((1, 0),)), 0), 4)
        self.whole(answers((((0, 3),),), 0), 4)

    def test_a_table_greater_than_the_bounds(self):
        table = tuple(tuple((s, s + 5 * d) for d in range(9)) for s in range(30))
        self.whole(next_state(table, 29, 8), 29)
        self.whole(answer(table, 29, 8), 69)
        self.whole(answers(table, 7), 65)

    def test_arguments_by_their_names(self):
        table = (((1, 0), (2, 3)), ((0, 1), (1, 2)), ((2, 0), (0, 1)))
        self.whole(next_state(deed=1, state=0, table=table), 2)
        self.whole(next_state(deed=0, state=1, table=table), 0)
        self.whole(answer(deed=1, state=0, table=table), 3)
        self.whole(answer(deed=0, state=1, table=table), 1)
        self.whole(answers(deed=1, table=table), 4)
        self.whole(answers(deed=0, table=table), 2)


class Kinds(unittest.TestCase):
    def truth(self, value, wanted):
        self.assertIs(value, wanted)

    def all_tables(self):
        yield from all_small_tables()
        for size in SIZES:
            yield from some_tables(*size)

    def test_looks_layings_and_plain_tables(self):
        for table in self.all_tables():
            plain = True
            for deed in range(len(table[0])):
                self.truth(is_look(table, deed), looks(table, deed))
                self.truth(is_laying(table, deed), lays(table, deed))
                plain = plain and (looks(table, deed) or lays(table, deed))
            self.truth(is_plain(table), plain)

    def test_meek_deeds_and_tables(self):
        for table in self.all_tables():
            states, deeds = range(len(table)), range(len(table[0]))
            of_all = True
            for one, other, state in itertools.product(deeds, deeds, states):
                wanted = any(meek(table, one, other, state))
                self.truth(meek_at(table, one, other, state), wanted)
                of_all = of_all and wanted
            self.truth(is_meek(table), of_all)

    def test_a_deed_that_is_look_and_laying(self):
        table = (((0, 0),),)
        self.truth(is_look(table, 0), True)
        self.truth(is_laying(table, 0), True)
        self.truth(is_plain(table), True)

    def test_a_look_may_be_answered_anything(self):
        self.truth(is_look((((0, 3),), ((1, 1),), ((2, 3),)), 0), True)
        self.truth(is_plain((((0, 3),), ((1, 1),), ((2, 3),))), True)

    def test_a_deed_is_no_look_where_one_state_is_led_elsewhere(self):
        for states in range(2, 5):
            for place in range(states):
                table = tuple(((((s + 1) % states if s == place else s), 0),) for s in range(states))
                with self.subTest(table=table):
                    self.truth(is_look(table, 0), False)
                    self.truth(is_laying(table, 0), states == 2)

    def test_one_that_leads_all_to_one_but_is_answered_otherwise_in_one_state(self):
        for states in range(2, 5):
            for goal, place in itertools.product(range(states), range(states)):
                table = tuple(((goal, 2 if s == place else 0),) for s in range(states))
                with self.subTest(table=table):
                    self.truth(is_laying(table, 0), False)
                    self.truth(is_plain(table), False)

    def test_one_that_leads_all_to_one_and_is_answered_1_everywhere_is_no_laying(self):
        self.truth(is_laying((((1, 1),), ((1, 1),)), 0), False)
        self.truth(is_laying((((1, 0),), ((1, 0),)), 0), True)

    def test_one_that_leads_one_state_elsewhere_is_no_laying(self):
        for states in range(3, 5):
            for place in range(states):
                table = tuple(((1 if s == place else 0, 0),) for s in range(states))
                with self.subTest(table=table):
                    self.truth(is_laying(table, 0), False)

    def test_one_deed_at_any_place_makes_a_table_not_plain(self):
        for deeds in range(1, 5):
            for place in range(deeds):
                row = [tuple((1, s) if d == place else (s, s) for d in range(deeds)) for s in range(2)]
                with self.subTest(place=place, deeds=deeds):
                    self.truth(is_plain(tuple(row)), False)
        self.truth(is_plain(PLAIN_OF_TWO), True)
        self.truth(is_plain(TEST_AND_SET), True)

    def test_each_way_to_be_meek_by_itself(self):
        # By adding, modulo 4: the orders lead to the same, the one alone elsewhere.
        orders = tuple(((s + 1) % 4, 0) for s in range(4)), tuple(((s + 2) % 4, 0) for s in range(4))
        orders = tuple(zip(*orders))
        self.assertEqual(meek(orders, 0, 1, 0), (True, False, False))
        # Deed 1 lays 0; deed 0 leads one on: laid last, nothing is left of the other.
        laid = (((1, 0), (0, 0)), ((2, 0), (0, 0)), ((0, 0), (0, 0)))
        self.assertEqual(meek(laid, 0, 1, 1), (False, True, False))
        self.assertEqual(meek(laid, 1, 0, 1), (False, False, True))
        self.assertEqual(meek(FIRST_OF_TWO, 0, 1, 0), (False, False, False))
        for table, one, other, state in ((orders, 0, 1, 0), (laid, 0, 1, 1), (laid, 1, 0, 1)):
            self.truth(meek_at(table, one, other, state), True)
        self.truth(meek_at(FIRST_OF_TWO, 0, 1, 0), False)
        self.truth(meek_at(FIRST_OF_TWO, 1, 0, 0), False)
        self.truth(is_meek(orders), True)
        self.truth(is_meek(laid), True)
        self.truth(is_meek(FIRST_OF_TWO), False)

    def test_a_deed_with_itself(self):
        for table in some_tables(4, 4):
            for deed, state in itertools.product(range(4), range(4)):
                self.truth(meek_at(table, deed, deed, state), True)

    def test_one_pair_at_one_state_makes_a_table_not_meek(self):
        for states, deeds in itertools.product((3, 4), (2, 3, 4)):
            for here, left, right in itertools.permutations(range(states), 3):
                for one, other in itertools.combinations(range(deeds), 2):
                    goals = {(here, one): left, (here, other): right}
                    table = tuple(tuple((goals.get((s, d), s), 0) for d in range(deeds))
                                  for s in range(states))
                    with self.subTest(table=table):
                        self.truth(is_meek(table), False)
                        for s in range(states):
                            self.truth(meek_at(table, one, other, s), s != here)

    def test_a_plain_table_is_meek(self):
        many = 0
        for table in self.all_tables():
            if is_plain(table):
                many += 1
                self.truth(is_meek(table), True)
        self.assertGreater(many, 100)
        self.truth(is_meek(PLAIN_OF_TWO), True)

    def test_a_meek_table_need_not_be_plain(self):
        swap = (((0, 0), (1, 0)), ((0, 1), (1, 1)))
        self.truth(is_plain(swap), False)
        self.truth(is_meek(swap), True)

    def test_arguments_by_their_names(self):
        laid = (((1, 0), (0, 0)), ((2, 0), (0, 0)), ((0, 0), (0, 0)))
        self.truth(is_look(deed=0, table=laid), False)
        self.truth(is_laying(deed=1, table=laid), True)
        self.truth(is_plain(table=laid), False)
        self.truth(is_meek(table=laid), True)
        self.truth(meek_at(state=0, other=1, one=0, table=FIRST_OF_TWO), False)
        self.truth(meek_at(state=1, other=0, one=1, table=FIRST_OF_TWO), True)


class Again(unittest.TestCase):
    def told(self, table):
        states, deeds = range(len(table)), range(len(table[0]))
        return (
            [(next_state(table, s, d), answer(table, s, d)) for s in states for d in deeds],
            [(answers(table, d), is_look(table, d), is_laying(table, d)) for d in deeds],
            [meek_at(table, i, j, s) for i in deeds for j in deeds for s in states],
            is_plain(table), is_meek(table))

    def test_the_same_question_has_the_same_answer(self):
        tables = [FIRST_OF_TWO, PLAIN_OF_TWO, TEST_AND_SET]
        for size in SIZES:
            tables += some_tables(*size, many=4)
        once = [self.told(table) for table in tables]
        self.assertEqual([self.told(table) for table in reversed(tables)], once[::-1])


if __name__ == "__main__":
    unittest.main()
