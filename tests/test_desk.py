"""Promise [31]: the desk."""

import unittest

from pactboards.book import pact_first, pact_of, swap
from pactboards.desk import Desk
from pactboards.ends import ends_of
from pactboards.errors import NoHouse, NoRow, NotGood, NotMeek, NoText, PactError, TooMany
from pactboards.housetexts import house_text
from pactboards.keptopen import kept_open
from pactboards.numbers import numbers_of
from pactboards.papers import paper_of
from pactboards.rebuild import rebuilt

from samples import (
    ALWAYS_NOUGHT, EACH_ITS_OWN, GOOD_BY_ONCE, GOOD_OF_THREE, GOOD_OF_TWO, PLAIN, RACE_OF_THREE, RACE_OF_TWO, WAITING,
    after_all, all_inputs, all_stands, first_stand, house_of_words, near_good, near_race, slow_good, small_houses,
    some_houses)

PACT = ("house board 1.1 2.2 / 1.1 1.1 / 2.2 2.2 at 0 ; hand 0 1 ; do 0 0 : 2 2 3 ; do 0 1 : 2 2 3 ; settle 0 ; "
        "settle 1 ; hand 0 1 ; do 0 0 : 2 2 3 ; do 0 1 : 2 2 3 ; settle 0 ; settle 1")
OWN = "house hand 0 1 ; settle 0 ; settle 1 ; hand 0 1 ; settle 0 ; settle 1"
# A round of three lines behind a deed, and a hand that settles on its own: safe.
GOING = ("house board 0.0 at 0 ; hand 0 0 ; do 0 0 : 1 ; do 0 0 : 2 ; do 0 0 : 3 ; do 0 0 : 1 ; "
         "hand 0 1 ; settle 0 ; settle 1")


def row_of(house):
    return "house " + house_text(house).replace("\n", " ; ")


def desk_with(*houses):
    desk = Desk()
    for house in houses:
        desk.say(row_of(house))
    return desk


def figures(row):
    return "".join(map(str, row)) or "-"


class Said(unittest.TestCase):
    def refused(self, kind, desk, *rows):
        """Each row is refused by this kind itself; the last refusal is told."""
        refusals = []
        for row in rows:
            with self.assertRaises(PactError, msg=row[:80]) as taken:
                desk.say(row)
            self.assertIs(taken.exception.__class__, kind, row[:80])
            refusals.append(taken.exception)
        return refusals[-1]


class House(Said):
    def test_written_out(self):
        self.assertEqual(Desk().say(PACT), "kept 2 1 14")
        self.assertEqual(Desk().say(OWN), "kept 2 0 4")
        self.assertEqual(Desk().say(row="house hand 0 0 ; settle 0 ; hand 0 0 ; settle 0 ; hand 0 0 ; settle 0"),
                         "kept 3 0 1")

    def test_of_any_house(self):
        desk = Desk()
        for house, stands in small_houses(60, 310, house_of_words, 500):
            self.assertEqual(desk.say(row_of(house)), f"kept {len(house[1])} {len(house[0])} {len(stands)}")
            self.assertEqual(desk.say("run " + "0" * len(house[1]) + " -").split(" ")[:len(house[1])],
                             [str(begins[0]) for begins, lines in house[1]])

    def test_without_signs(self):
        self.assertEqual(self.refused(NoText, Desk(), "house ").row, 0)
        desk = desk_with(GOOD_OF_TWO)
        self.assertEqual(self.refused(NoText, desk, "house ").row, 0)
        self.assertEqual(desk.say("paper"), "good 2")

    def test_no_text(self):
        for row, wrong in (("house x", 0), ("house  hand 0 0 ; settle 0", 0),
                           ("house hand 0 0 ; settle 0 ", 1), ("house hand 0 0; settle 0", 0),
                           ("house hand 0 0 ;settle 0", 0), ("house hand 0 0 ;  settle 0", 1),
                           ("house hand 0 0 ; settle 0 ; ", 2), ("house ; hand 0 0", 0),
                           ("house board 0.0 at 0", 1), ("house board 0.0 at 0 ; board 0.0 at 0 ; hand 0 0 ; do", 3),
                           ("house hand 0 00 ; settle 0", 0), ("house hand 0 0 ; settle 0 ; house hand 0 0", 2)):
            self.assertEqual(self.refused(NoText, Desk(), row).row, wrong, row)

    def test_no_house(self):
        for row, place in (("house hand 0 0 ; settle 0", ("hands",)), ("house hand 0 0", ("hands",)),
                           ("house board 0.0 at 1 ; hand 0 0 ; settle 0", ("board", 0)),
                           ("house hand 0 1 ; settle 0 ; hand 0 0 ; settle 0", ("hand", 0)),
                           ("house hand 0 0 ; settle 0 ; hand 0 0 ; settle 0 ; settle 2", ("line", 1, 1))):
            self.assertEqual(self.refused(NoHouse, Desk(), row).place, place)

    def test_too_many(self):
        desk = Desk()
        fits, beyond = slow_good(0, 162), slow_good(1, 161)
        self.assertEqual(desk.say(row_of(fits)), "kept 2 2 500")
        self.assertEqual(self.refused(TooMany, desk, row_of(beyond)).most, 500)
        self.assertEqual(desk.say("run 00 -"), "0 0 / 0 0")
        # What is no text, or no house, is refused as that.
        self.refused(NoText, desk, row_of(beyond) + " ; settle")
        self.refused(NoHouse, desk, row_of(beyond) + " ; settle 2")

    def test_another_house_takes_its_place(self):
        desk = desk_with(GOOD_OF_TWO)
        self.assertEqual(desk.say("paper"), "good 2")
        desk.say(OWN)
        self.assertEqual(desk.say("paper"), "unlike 01 -")


class Paper(Said):
    def test_each_word(self):
        desk = Desk()
        desk.say(PACT)
        self.assertEqual(desk.say("paper"), "good 2")
        desk.say(OWN)
        self.assertEqual(desk.say("paper"), "unlike 01 -")
        desk.say(row_of(ALWAYS_NOUGHT))
        self.assertEqual(desk.say("paper"), "strange 11 -")
        desk.say(GOING)
        self.assertEqual(desk.say("paper"), "round 00 0 000")
        desk.say(row_of(WAITING))
        self.assertEqual(desk.say("paper"), "round 00 - 0")

    def test_with_turns(self):
        # Each settles on its own behind a deed; and one on what nobody began with.
        desk = Desk()
        hand = "hand 0 1 ; do 0 0 : 2 ; do 0 0 : 3 ; settle 0 ; settle 1"
        desk.say(f"house board 0.0 at 0 ; {hand} ; {hand}")
        self.assertEqual(desk.say("paper"), "unlike 01 01")
        hand = "hand 0 0 ; do 0 0 : 1 ; settle 0"
        desk.say(f"house board 0.0 at 0 ; {hand} ; {hand}")
        self.assertEqual(desk.say("paper"), "strange 11 0")

    def test_good_is_the_greatest_number_of_a_begin(self):
        desk = Desk()
        for house in (GOOD_OF_TWO, GOOD_OF_THREE, GOOD_BY_ONCE, pact_of(swap(3)), slow_good(0, 3), slow_good(3, 0)):
            desk.say(row_of(house))
            numbers = [numbers_of(house)[first_stand(house, inputs)] for inputs in all_inputs(house)]
            self.assertEqual(desk.say("paper"), f"good {max(numbers)}")
        self.assertGreater(max(numbers), min(numbers))

    def test_of_any_house(self):
        seen = set()
        for make in (house_of_words, near_good):
            for house, stands in small_houses(60, 311, make, 200):
                told = desk_with(house).say("paper").split(" ")
                paper = paper_of(house)
                seen.add(paper[0])
                self.assertEqual(told[0], paper[0])
                if paper[0] != "good":
                    self.assertEqual(told[1:], [figures(row) for row in paper[1:]])
        self.assertEqual(seen, {"unlike", "strange", "round", "good"})


class Run(Said):
    def test_written_out(self):
        desk = Desk()
        desk.say(PACT)
        self.assertEqual(desk.say("run 01 -"), "0 1 / 0")
        self.assertEqual(desk.say("run 01 1"), "0 3 / 2")
        self.assertEqual(desk.say("run 01 10"), "3 3 / 2")
        self.assertEqual(desk.say("run 10 1000"), "2 2 / 1")
        desk.say(row_of(GOOD_BY_ONCE))
        self.assertEqual(desk.say("run 01 0101"), "5 4 / 1 0 1")
        desk.say(OWN)
        self.assertEqual(desk.say("run 01 -"), "0 1")
        self.assertEqual(desk.say("run 10 01"), "1 0")

    def test_three_hands(self):
        desk = desk_with(GOOD_OF_THREE)
        self.assertEqual(desk.say("run 010 -"), "0 1 0 / 0")
        self.assertEqual(desk.say("run 010 120"), "3 3 3 / 2")
        self.assertEqual(desk.say("run 110 222"), "1 1 2 / 1")

    def test_of_any_house(self):
        for house, stands in small_houses(60, 312, house_of_words, 200):
            desk = desk_with(house)
            for inputs in all_inputs(house):
                for turns in ((), (0,), (1, 0, 1), tuple(range(len(house[1]))) * 3):
                    lines, states = after_all(house, first_stand(house, inputs), turns)
                    wanted = " ".join(map(str, lines + (("/",) + states if states else ())))
                    self.assertEqual(desk.say(f"run {figures(inputs)} {figures(turns)}"), wanted)

    def test_many_turns(self):
        desk = desk_with(WAITING)
        self.assertEqual(desk.say("run 00 " + "01" * 100), "0 0 / 0")


class Ends(Said):
    def test_written_out(self):
        desk = desk_with(GOOD_OF_TWO)
        self.assertEqual(desk.say("ends 01 -"), "0 1")
        self.assertEqual(desk.say("ends 00 -"), "0")
        self.assertEqual(desk.say("ends 11 -"), "1")
        self.assertEqual(desk.say("ends 01 1"), "1")
        self.assertEqual(desk.say("ends 01 0"), "0")
        self.assertEqual(desk_with(WAITING).say("ends 01 0110"), "-")

    def test_of_any_house(self):
        for house, stands in small_houses(40, 313, house_of_words, 100):
            desk = desk_with(house)
            for inputs in all_inputs(house):
                for turns in ((), (0, 1), (1, 1)):
                    told = ends_of(house, after_all(house, first_stand(house, inputs), turns))
                    self.assertEqual(desk.say(f"ends {figures(inputs)} {figures(turns)}"),
                                     " ".join(map(str, told)) or "-")


class Open(Said):
    def test_each_word(self):
        self.assertEqual(desk_with(EACH_ITS_OWN).say("open"), "unsafe")
        self.assertEqual(desk_with(WAITING).say("open"), "alone 0 00 -")
        desk = desk_with(RACE_OF_TWO)
        word, inputs, turns, again = desk.say("open").split(" ")
        self.assertEqual((word, inputs, turns, again), ("open",) + tuple(map(figures, kept_open(RACE_OF_TWO)[1:4])))
        self.assertEqual(desk.say(f"run {inputs} {turns}"), desk.say(f"run {inputs} {turns}{again}"))

    def test_the_hand_that_is_alone(self):
        # Hand 1 waits until hand 0 has laid something.
        desk = Desk()
        desk.say("house board 0.0 0.0 1.0 2.0 / 1.1 0.0 1.0 2.0 / 2.2 0.0 1.0 2.0 at 2 ; "
                 "hand 0 1 ; do 0 1 : 2 ; do 0 2 : 3 ; settle 0 ; settle 1 ; "
                 "hand 0 0 ; do 0 0 : 1 2 0 ; settle 0 ; settle 1")
        self.assertEqual(desk.say("open"), "alone 1 00 -")

    def test_of_any_house(self):
        seen = set()
        for house, stands in small_houses(150, 314, near_race, 200):
            told = kept_open(house)
            wanted = [told[0]]
            if told[0] == "alone":
                wanted += [str(told[3]), figures(told[1]), figures(told[2])]
            elif told[0] == "open":
                wanted += [figures(row) for row in told[1:4]]
            self.assertEqual(desk_with(house).say("open"), " ".join(wanted))
            seen.add(told[0])
        self.assertEqual(seen, {"unsafe", "alone", "open"})

    def test_refused(self):
        self.assertEqual(self.refused(NotMeek, desk_with(GOOD_OF_TWO), "open").board, 0)
        house = (((PLAIN, 0),) + GOOD_BY_ONCE[0], EACH_ITS_OWN[1])
        self.assertEqual(self.refused(NotMeek, desk_with(house), "open").board, 1)


class Rebuild(Said):
    def test_what_is_told_and_kept(self):
        for house in (GOOD_OF_TWO, GOOD_OF_THREE, GOOD_BY_ONCE):
            for board in range(len(house[0])):
                desk = desk_with(house)
                new = rebuilt(house, board)[0]
                lines = sum(len(own) for begins, own in new[1])
                self.assertEqual(desk.say(f"rebuild {board}"), f"rebuilt {len(new[1])} {len(new[0])} {lines}")
                numbers = numbers_of(new)
                self.assertEqual(desk.say("paper"), "good " + str(
                    max(numbers[first_stand(new, inputs)] for inputs in all_inputs(new))))
                inputs = (0, 1, 1)[:len(house[1])]
                stand = after_all(new, first_stand(new, inputs), (0, 1, 1))
                self.assertEqual(desk.say(f"run {figures(inputs)} 011"),
                                 " ".join(map(str, stand[0] + ("/",) + stand[1])))

    def test_rebuilt_again(self):
        desk = desk_with(GOOD_OF_TWO)
        house = GOOD_OF_TWO
        for board in (0, 1, 0, 2):
            house = rebuilt(house, board)[0]
            lines = sum(len(own) for begins, own in house[1])
            self.assertEqual(desk.say(f"rebuild {board}"), f"rebuilt 2 {len(house[0])} {lines}")

    def test_refused(self):
        desk = desk_with(GOOD_OF_TWO)
        for board in (1, 7, 10, 999):
            self.assertEqual(self.refused(NoHouse, desk, f"rebuild {board}").place, ("board", board))
        self.assertEqual(self.refused(NoHouse, desk_with(EACH_ITS_OWN), "rebuild 0").place, ("board", 0))
        self.refused(NotGood, desk_with(WAITING), "rebuild 0")
        self.refused(NotGood, desk_with(RACE_OF_THREE), "rebuild 0")
        self.refused(NoRow, desk, "rebuild", "rebuild ", "rebuild 00", "rebuild 01", "rebuild 0000", "rebuild 1000",
                     "rebuild -1", "rebuild +0", "rebuild x", "rebuild 0 0", "rebuild  0", "rebuild 0 ", "rebuild -")
        self.assertEqual(desk.say("paper"), "good 2")
        self.refused(NoRow, desk, "back")

    def test_a_rebuilt_house_of_many_stands(self):
        # Kept it is; what has a most is refused then.
        desk = desk_with(slow_good(0, 162))
        self.assertEqual(desk.say("rebuild 0").split(" ")[0], "rebuilt")
        new = rebuilt(slow_good(0, 162), 0)[0]
        self.assertGreater(len(all_stands(new)), 500)
        for row in ("paper", "rebuild 0"):
            self.assertEqual(self.refused(TooMany, desk, row).most, 500)
        self.assertEqual(self.refused(NoHouse, desk, "rebuild 999").place, ("board", 999))
        self.assertEqual(desk.say("ends 01 -"), "0 1")
        self.assertEqual(desk.say("back"), "kept 2 2")
        self.assertEqual(desk.say("paper"), "good 164")


class Back(Said):
    def test_behind_house_and_rebuild(self):
        desk = Desk()
        desk.say(PACT)
        desk.say(row_of(GOOD_BY_ONCE))
        desk.say("rebuild 0")
        desk.say("rebuild 3")
        desk.say(OWN)
        self.assertEqual(desk.say("paper"), "unlike 01 -")
        new = rebuilt(GOOD_BY_ONCE, 0)[0]
        newer = rebuilt(new, 3)[0]
        self.assertEqual(desk.say("back"), f"kept 2 {len(newer[0])}")
        self.assertEqual(desk.say("back"), f"kept 2 {len(new[0])}")
        self.assertEqual(desk.say("back"), "kept 2 3")
        self.assertEqual(desk.say("paper"), "good 5")
        self.assertEqual(desk.say("back"), "kept 2 1")
        self.assertEqual(desk.say("paper"), "good 2")
        self.refused(NoRow, desk, "back", "back")
        self.assertEqual(desk.say("paper"), "good 2")

    def test_what_was_taken_back_is_gone(self):
        desk = Desk()
        desk.say(PACT)
        desk.say(OWN)
        self.assertEqual(desk.say("back"), "kept 2 1")
        desk.say(row_of(GOOD_OF_THREE))
        self.assertEqual(desk.say("back"), "kept 2 1")
        self.refused(NoRow, desk, "back")
        desk.say("rebuild 0")
        self.assertEqual(desk.say("back"), "kept 2 1")
        self.refused(NoRow, desk, "back")

    def test_what_was_refused_is_not_gone_back_to(self):
        desk = Desk()
        desk.say(PACT)
        self.refused(NoText, desk, "house x")
        self.refused(NoHouse, desk, "rebuild 5")
        self.refused(NoRow, desk, "back")
        desk.say(OWN)
        self.refused(NoHouse, desk, "rebuild 0", "house hand 0 0 ; settle 0")
        self.refused(TooMany, desk, row_of(slow_good(1, 161)))
        self.assertEqual(desk.say("back"), "kept 2 1")
        self.refused(NoRow, desk, "back")

    def test_the_same_house_twice(self):
        desk = desk_with(GOOD_OF_TWO, GOOD_OF_TWO)
        self.assertEqual(desk.say("back"), "kept 2 1")
        self.refused(NoRow, desk, "back")

    def test_questions_are_not_taken_back(self):
        desk = desk_with(GOOD_OF_TWO, EACH_ITS_OWN)
        for row in ("paper", "open", "run 01 -", "ends 01 -"):
            desk.say(row)
        self.assertEqual(desk.say("back"), "kept 2 1")


class NoRows(Said):
    def test_without_a_house(self):
        desk = Desk()
        self.refused(NoRow, desk, "paper", "open", "back", "run 00 -", "ends 00 -", "rebuild 0", "rebuild 9", "house",
                     "", "x", "run", "open x")
        self.refused(NoText, desk, "house x")
        self.refused(NoRow, desk, "paper")
        self.assertEqual(desk.say(PACT), "kept 2 1 14")
        self.assertEqual(desk.say("paper"), "good 2")

    def test_what_is_no_row(self):
        desk = desk_with(GOOD_OF_TWO)
        self.refused(
            NoRow, desk, "", " ", "  ", "x", "papers", "Paper", "PAPER", "pape", "keep", "kept 2 1", "house", "houses",
            "House " + PACT[6:], "unsafe", "-", "0", "/", ";")

    def test_a_word_more_or_fewer(self):
        desk = desk_with(GOOD_OF_TWO)
        self.refused(NoRow, desk, "paper 0", "paper paper", "open 0", "open open", "back 0", "back back", "run",
                     "run 01", "run 01 0 1", "run 01 - -", "run -", "ends", "ends 01", "ends 01 0 1", "ends -",
                     "rebuild", "rebuild 0 0", "01 -", "run ends 01 -")

    def test_blanks(self):
        desk = desk_with(GOOD_OF_TWO)
        for row in ("paper", "open", "back", "run 01 -", "run 01 0", "ends 01 -", "ends 01 10", "rebuild 0"):
            self.refused(NoRow, desk, " " + row, row + " ", "  " + row, row + "  ", "\t" + row, row + "\t")
            if " " in row:
                self.refused(NoRow, desk, row.replace(" ", "  "), row.replace(" ", "  ", 1), row.replace(" ", "\t"),
                             row.replace(" ", ""), row.replace(" ", " ; "))
        self.refused(NoRow, desk, " " + PACT, "house" + PACT[6:])

    def test_inputs(self):
        for house in (GOOD_OF_TWO, GOOD_OF_THREE):
            desk = desk_with(house)
            many = len(house[1])
            for word in ("run", "ends"):
                for inputs in ("0", "", "-", "01-", "0" * (many - 1), "0" * (many + 1), "0" * (many - 1) + "2",
                               "2" + "0" * (many - 1), "x" * many, "0" * (many - 1) + "-", "-" + "1" * (many - 1),
                               "+" + "1" * (many - 1), "0" * (many - 1) + "9", "0" * 9):
                    self.refused(NoRow, desk, f"{word} {inputs} -", f"{word} {inputs} 0")

    def test_turns(self):
        for house in (GOOD_OF_TWO, GOOD_OF_THREE):
            desk = desk_with(house)
            inputs = "01" + "0" * (len(house[1]) - 2)
            beyond = str(len(house[1]))
            for word in ("run", "ends"):
                for turns in ("", beyond, "0" + beyond, beyond + "0", "9", "x", "--", "-0", "0-", "0,1", "(0)", "0.",
                              "01x", "00000000" + beyond):
                    self.refused(NoRow, desk, f"{word} {inputs} {turns}")
        self.assertEqual(desk_with(GOOD_OF_THREE).say("run 010 2"), "0 1 2 / 1")
        self.refused(NoRow, desk_with(GOOD_OF_TWO), "run 01 2")

    def test_a_line_feed_anywhere(self):
        desk = desk_with(GOOD_OF_TWO)
        for row in ("paper", "open", "back", "run 01 -", "ends 01 -", "rebuild 0", PACT, OWN):
            self.refused(NoRow, desk, "\n" + row, row + "\n", row[:2] + "\n" + row[2:], row.replace(" ", "\n", 1)
                         if " " in row else "\n")
        self.refused(NoRow, desk, PACT.replace(" ; ", "\n"), PACT.replace(" ; ", "\n", 1), "house \n", "\n", "house x\n",
                     "house\n")
        self.refused(NoRow, Desk(), PACT + "\n", "house \n")

    def test_what_is_refused_changes_nothing(self):
        desk = desk_with(EACH_ITS_OWN, GOOD_BY_ONCE)
        asked = ("paper", "run 01 0101", "ends 01 0")
        told = [desk.say(row) for row in asked]
        for kind, row in ((NoRow, "x"), (NoText, "house x"), (NoHouse, "house hand 0 0 ; settle 0"), (NotMeek, "open"),
                          (NoHouse, "rebuild 9"), (NoRow, "rebuild 00"), (TooMany, row_of(slow_good(1, 161))),
                          (NoRow, "run 01 2")):
            self.refused(kind, desk, row)
            self.assertEqual([desk.say(row) for row in asked], told)
        self.assertEqual(desk.say("back"), "kept 2 0")
        self.refused(NoRow, desk, "back")


class Two(Said):
    def test_two_desks_beside_one_another(self):
        one, other = Desk(), Desk()
        one.say(PACT)
        self.refused(NoRow, other, "paper")
        other.say(OWN)
        self.assertEqual((one.say("paper"), other.say("paper")), ("good 2", "unlike 01 -"))
        one.say("rebuild 0")
        self.refused(NoRow, other, "back")
        self.assertEqual(one.say("back"), "kept 2 1")
        self.assertEqual(other.say("paper"), "unlike 01 -")

    def test_texts_are_told(self):
        desk = desk_with(RACE_OF_TWO)
        for row in ("paper", "open", "run 01 0", "ends 01 0", row_of(GOOD_OF_TWO), "rebuild 0", "back"):
            self.assertIs(desk.say(row).__class__, str)

    def test_the_same_each_time(self):
        for house in some_houses(20, 315, near_good) + [pact_first(3)]:
            asked = ("paper", "run " + "0" * len(house[1]) + " 0101", "ends " + "1" * len(house[1]) + " 1")
            desks = (desk_with(house), desk_with(EACH_ITS_OWN, house))
            told = [[desk.say(row) for row in asked] for desk in desks + desks]
            self.assertEqual(told[1:], told[:-1])


if __name__ == "__main__":
    unittest.main()
