"""Promises [2] and [3] and the interface over the whole program."""

import copy
import importlib
import inspect
import random
import unittest

from pactboards.book import add, first, pact_first, pact_of, plain, swap
from pactboards.checks import holds
from pactboards.desk import Desk
from pactboards.ends import critical, ends_of
from pactboards.errors import PactError, TooMany
from pactboards.follow import follow
from pactboards.graphs import stands_of
from pactboards.houses import look
from pactboards.housetexts import house_text, read_house
from pactboards.keptopen import kept_open
from pactboards.likes import boards_exchanged, hands_exchanged, trimmed
from pactboards.numbers import deeds_at, numbers_of, round_of
from pactboards.openchecks import holds_open
from pactboards.papers import is_safe, paper_of
from pactboards.rebuild import bound, rebuilt
from pactboards.stands import begin, run
from pactboards.tables import is_meek, is_plain

from samples import (
    ALWAYS_NOUGHT, EACH_ITS_OWN, GOOD_BY_ONCE, GOOD_OF_THREE, GOOD_OF_TWO, ONE, PLAIN, RACE_OF_THREE, RACE_OF_TWO,
    WAITING, after_all, all_inputs, all_stands, any_house, any_table, chain, first_stand, good_house, house_of_words,
    near_good, near_race, onward_house, slow_good, small_houses)

# Each function of the interface with the names of its arguments; those with a most have 500 for it.
INTERFACE = {
    "tables": "next_state table state deed, answer table state deed, answers table deed, is_look table deed, "
              "is_laying table deed, is_plain table, meek_at table one other state, is_meek table",
    "tabletexts": "table_text table, read_table text",
    "houses": "look house, inputs_of house",
    "housetexts": "house_text house, read_house text",
    "stands": "begin house inputs, behind house stand hand, run house stand turns, settled house stand, "
              "free house stand",
    "alone": "alone house stand hand",
    "graphs": "stands_of house most",
    "numbers": "numbers_of house most, round_of house most, deeds_at house board most",
    "papers": "is_safe house most, paper_of house most",
    "checks": "holds house paper most",
    "ends": "ends_of house stand, way_to house stand value, critical house most",
    "twins": "same_to one other hand, twins house stand i j",
    "keptopen": "kept_open house most",
    "openchecks": "holds_open house paper most",
    "book": "first n, plain n, swap n, add n, mark table, pact_of table, pact_first hands",
    "rebuild": "rebuilt house board most, bound house board most",
    "follow": "follow house board new origins inputs turns",
    "likes": "hands_exchanged house order, boards_exchanged house order, trimmed house most",
}


def functions():
    for module, rows in INTERFACE.items():
        for row in rows.split(", "):
            name, *names = row.split(" ")
            yield getattr(importlib.import_module("pactboards." + module), name), names


def questions():
    """A question to each function of the interface: the function, and what is handed in, by names."""
    new, origins = rebuilt(GOOD_BY_ONCE, 0)
    handed = {
        "table": swap(3), "state": 1, "deed": 0, "one": 0, "other": 1, "text": house_text(GOOD_BY_ONCE),
        "house": GOOD_BY_ONCE, "inputs": (0, 1), "stand": begin(GOOD_BY_ONCE, (0, 1)), "hand": 0,
        "turns": [0, 1, 1, 0, 1], "board": 0, "most": 400, "paper": paper_of(GOOD_BY_ONCE), "value": 1, "i": 1, "j": 0,
        "n": 3, "hands": 3, "new": new, "origins": origins}
    others = {
        "read_table": {"text": "0.0 1.0 / 1.1 1.0"}, "kept_open": {"house": RACE_OF_TWO},
        "holds_open": {"house": RACE_OF_TWO, "paper": listed(kept_open(RACE_OF_TWO))},
        "same_to": {"one": ((0, 1), (0,)), "other": ((1, 1), (0,))},
        "hands_exchanged": {"order": (1, 0)}, "boards_exchanged": {"order": (2, 0, 1)},
        "round_of": {"house": RACE_OF_TWO}}
    for function, names in functions():
        told = {name: handed.get(name) for name in names}
        told.update(others.get(function.__name__, {}))
        # What is done to it in a test is not for the next question.
        yield function, copy.deepcopy(told)


def listed(paper):
    """What is told of a house that is kept open, with rows of turns as lists."""
    word, inputs, turns, again, ways = paper
    return (word, inputs, list(turns), list(again), [(list(one), list(other)) for one, other in ways])


def spoil(value):
    """Changes all lists and dicts within."""
    if value.__class__ is dict:
        for key in list(value):
            value[key] = "spoiled"
        value[0] = 0
    elif value.__class__ is list:
        for part in value:
            spoil(part)
        value.reverse()
        value.append("spoiled")
    elif value.__class__ is tuple:
        for part in value:
            spoil(part)


class Interface(unittest.TestCase):
    def test_names_and_arguments(self):
        for function, names in functions():
            parameters = inspect.signature(function).parameters
            self.assertEqual(list(parameters), names, function)
            for name in names:
                wanted = 500 if name == "most" else inspect.Parameter.empty
                self.assertEqual(parameters[name].default, wanted, function)

    def test_the_desk(self):
        self.assertEqual(list(inspect.signature(Desk).parameters), [])
        self.assertEqual(list(inspect.signature(Desk().say).parameters), ["row"])


class Asked(unittest.TestCase):
    def test_each_function_tells_the_same_behind_other_questions(self):
        asked = list(questions())
        told = [copy.deepcopy(function(**handed)) for function, handed in asked]
        self.assertEqual(len(asked), 47)
        source = random.Random(320)
        for k in range(3):
            order = list(range(len(asked)))
            source.shuffle(order)
            for n in order:
                function, handed = asked[n]
                self.assertEqual(function(**handed), told[n], function)

    def test_what_was_told_and_is_changed_changes_nothing_later(self):
        changed = 0
        for function, handed in questions():
            told = function(**handed)
            kept = copy.deepcopy(told)
            spoil(told)
            changed += told != kept
            self.assertEqual(function(**handed), kept, function)
        self.assertGreaterEqual(changed, 8)

    def test_what_is_handed_in_stays_as_it_was(self):
        for function, handed in questions():
            kept = copy.deepcopy(handed)
            function(**handed)
            self.assertEqual(handed, kept, function)
            for name, value in handed.items():
                if value.__class__ is tuple and value and value[0] == "good":
                    self.assertEqual(list(value[1].items()), list(kept[name][1].items()))

    def test_what_was_handed_in_and_is_changed_changes_nothing_later(self):
        for function, handed in questions():
            told = copy.deepcopy(function(**handed))
            kept = copy.deepcopy(handed)
            spoil(tuple(handed.values()))
            self.assertEqual(function(**kept), told, function)

    def test_houses_of_which_a_house_is_told_share_nothing_that_can_be_changed(self):
        new = trimmed(GOOD_BY_ONCE)
        spoil(new)
        self.assertEqual(trimmed(GOOD_BY_ONCE), new)


class Most(unittest.TestCase):
    def asked(self, house):
        """Each function with a most, asked of the house with it or without."""
        paper = ("unlike", (0, 1), ())
        return [(stands_of, ()), (numbers_of, ()), (round_of, ()), (deeds_at, (0,)), (is_safe, ()), (paper_of, ()),
                (holds, (paper,)), (critical, ()), (rebuilt, (0,)), (bound, (0,)), (trimmed, ())]

    def test_the_list_is_whole(self):
        names = {function.__name__ for function, told in self.asked(ONE)} | {"kept_open", "holds_open"}
        self.assertEqual(names, {function.__name__ for function, names in functions() if "most" in names})

    def test_500_where_it_is_left_out(self):
        fits, beyond = slow_good(0, 162), slow_good(1, 161)
        for function, told in self.asked(fits):
            function(fits, *told)
            function(beyond, *told, 501)
            with self.assertRaises(TooMany) as taken:
                function(beyond, *told)
            self.assertEqual(taken.exception.most, 500)
            with self.assertRaises(TooMany) as taken:
                function(beyond, *told, most=500)
            self.assertEqual(taken.exception.most, 500)

    def test_500_for_houses_of_plain_boards(self):
        for function, told in ((kept_open, ()), (holds_open, (("alone", (0, 0), (), 0),))):
            function(chain(500), *told)
            with self.assertRaises(TooMany) as taken:
                function(chain(501), *told)
            self.assertEqual(taken.exception.most, 500)

    def test_each_most(self):
        house = GOOD_OF_TWO
        for function, told in self.asked(house):
            for most in range(1, 14):
                with self.assertRaises(TooMany) as taken:
                    function(house, *told, most)
                self.assertEqual(taken.exception.most, most)
            self.assertEqual(function(house, *told, 14), function(house, *told, 4000))


class Promise(unittest.TestCase):
    def test_one_of_four_papers_is_told_and_let_by(self):
        seen = set()
        for seed, make in ((330, any_house), (331, house_of_words), (332, near_good), (333, onward_house),
                           (334, near_race), (335, good_house)):
            for house, stands in small_houses(80, seed, make, 300):
                paper = paper_of(house)
                seen.add(paper[0])
                self.assertIs(holds(house, paper), True)
                self.look_at_boards(house, paper)
        self.assertEqual(seen, {"unlike", "strange", "round", "good"})

    def look_at_boards(self, house, paper):
        """Where all boards are plain, or meek with three hands, the fourth is never told, and why is told."""
        let_by = is_meek if len(house[1]) == 3 else is_plain
        if all(let_by(table) for table, state in house[0]):
            self.assertNotEqual(paper[0], "good")
            told = kept_open(house)
            self.assertEqual(told[0] == "unsafe", not is_safe(house))
            self.assertIs(holds_open(house, told), True)

    def test_tables_with_a_mark_and_boards_that_keep_the_first(self):
        for house in (pact_of(swap(2)), pact_of(add(4)), pact_first(2), pact_first(3)):
            self.assertEqual(paper_of(house)[0], "good")
        self.assertEqual(paper_of(GOOD_OF_THREE)[0], "good")

    def test_any_board_of_a_good_house_is_rebuilt_until_all_are(self):
        source = random.Random(336)
        houses = [pact_first(2), pact_first(3), pact_of(swap(2)), pact_of(add(3))]
        houses += [house for house, stands in small_houses(12, 337, good_house, 40)]
        for house in houses:
            for k in range(len(house[0])):
                new, origins = rebuilt(house, 0, 20000)
                for inputs in all_inputs(house):
                    turns = [source.randrange(len(house[1])) for n in range(40)]
                    told = follow(house, 0, new, origins, inputs, turns)
                    old = after_all(house, first_stand(house, inputs), told)
                    there = after_all(new, first_stand(new, inputs), turns)
                    self.assertEqual(old[0], tuple(own[n] for own, n in zip(origins, there[0])))
                    self.assertEqual(old[1][1:], there[1][:len(house[0]) - 1])
                house = new
            for table, state in house[0]:
                self.assertEqual(table, first(len(table) - 1))
            self.assertEqual(paper_of(house, 20000)[0], "good")


class HandedOn(unittest.TestCase):
    """What a function told may be handed on to others, whatever its size."""

    def test_a_rebuilt_house(self):
        for house in (pact_first(3), pact_of(swap(4)), GOOD_BY_ONCE):
            new = rebuilt(house, 0)[0]
            self.assertIs(look(new), True)
            self.assertEqual(read_house(house_text(new)), new)
            many = len(all_stands(new))
            self.assertEqual(len(stands_of(new, many)), many)
            paper = paper_of(new, many)
            self.assertEqual(paper[0], "good")
            self.assertIs(holds(new, paper, many), True)
            inputs = (0, 1, 0)[:len(house[1])]
            self.assertEqual(run(new, begin(new, inputs), [0, 1, 1, 0])[-1],
                             after_all(new, first_stand(new, inputs), [0, 1, 1, 0]))
            self.assertEqual(ends_of(new, begin(new, inputs)), (0, 1))
            self.assertGreater(len(critical(new)), 0)
            self.assertEqual(len(stands_of(trimmed(new)[0])), many)
            self.assertEqual(len(stands_of(hands_exchanged(new, tuple(reversed(range(len(house[1]))))))), many)
            order = tuple(reversed(range(len(new[0]))))
            self.assertEqual(len(stands_of(boards_exchanged(new, order))), many)
            for board in range(len(new[0])):
                newer = rebuilt(trimmed(new)[0], board)[0]
                self.assertEqual(paper_of(newer, 20000)[0], "good")
                self.assertGreaterEqual(bound(new, board), 1)

    def test_a_great_house(self):
        # More lines than can be written with three figures, and as many boards as deeds.
        house = slow_good(400, 700)
        new, origins = rebuilt(house, 1, 4000)
        self.assertEqual(bound(house, 1, 4000), 1100)
        self.assertIs(look(new), True)
        self.assertGreater(len(new[1][0][1]), 1000)
        self.assertEqual(paper_of(new, 4000)[0], "good")
        self.assertEqual(follow(house, 1, new, origins, (0, 1), [0, 1] * 100)[:3], (0, 1, 0))
        self.assertEqual(len(trimmed(new, 4000)[0][0]), len(new[0]))
        with self.assertRaises(PactError):
            read_house(house_text(new))

    def test_papers_and_what_is_kept_open(self):
        for house in (RACE_OF_TWO, RACE_OF_THREE, WAITING, EACH_ITS_OWN, ALWAYS_NOUGHT):
            self.assertIs(holds(house, paper_of(house)), True)
            self.assertIs(holds_open(house, kept_open(house)), True)

    def test_tables(self):
        for table in (first(4), plain(4), swap(4), add(4), rebuilt(pact_first(3), 0)[0][0][0][0]):
            house = (((table, 0), (PLAIN, 0)), EACH_ITS_OWN[1])
            self.assertEqual(read_house(house_text(house)), house)

    def test_a_house_of_the_desk(self):
        desk = Desk()
        for house in (GOOD_OF_TWO, GOOD_BY_ONCE, rebuilt(GOOD_BY_ONCE, 0)[0]):
            row = "house " + house_text(house).replace("\n", " ; ")
            self.assertEqual(desk.say(row), f"kept 2 {len(house[0])} {len(all_stands(house))}")

    def test_any_table_as_a_board_that_nobody_uses(self):
        source = random.Random(340)
        for k in range(20):
            house = (((any_table(source), 0),) + GOOD_BY_ONCE[0], tuple(
                (begins, tuple(line if line[0] == "settle" else ("do", line[1] + 1) + line[2:] for line in lines))
                for begins, lines in GOOD_BY_ONCE[1]))
            new, lines, boards = trimmed(house)
            self.assertEqual((new, boards), (GOOD_BY_ONCE, (1, 2, 3)))
            self.assertEqual(rebuilt(house, 0)[0], GOOD_BY_ONCE)


if __name__ == "__main__":
    unittest.main()
