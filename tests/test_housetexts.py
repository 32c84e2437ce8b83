"""Promise [9]: the texts of houses."""

import itertools
import random
import re
import unittest

from pactboards.errors import NoHouse, NoText
from pactboards.houses import look
from pactboards.housetexts import house_text, read_house

from samples import GOOD_BY_ONCE, GOOD_OF_THREE, GOOD_OF_TWO, any_house, kinds_within, some_houses

SHOWN_TABLE = (((0, 0), (1, 0)), ((1, 1), (1, 0)))
ONE_DEED = (((0, 0),),)
SHOWN = (
    ((SHOWN_TABLE, 1), ((((0, 2),),), 0)),
    (((1, 0), (("settle", 1), ("do", 0, 0, (2, 0)), ("do", 1, 0, (0, 1, 2)))),
     ((0, 0), (("settle", 0),))))
SHOWN_ROWS = (
    "board 0.0 1.0 / 1.1 1.0 at 1", "board 0.2 at 0",
    "hand 1 0", "settle 1", "do 0 0 : 2 0", "do 1 0 : 0 1 2",
    "hand 0 0", "settle 0")
BARE_ROWS = ("hand 0 0", "settle 0", "hand 0 1", "settle 1", "settle 0", "hand 0 0", "settle 1")
SIGNS = [chr(code) for code in range(32, 127) if chr(code) != "%"] + ["\n"]

NUMBER = "(?:0|[1-9][0-9]{0,2})"
PAIR = NUMBER + r"\." + NUMBER
STATE = PAIR + "(?: " + PAIR + ")*"
FORMS = {
    "board": re.compile("board (?P<table>" + STATE + "(?: / " + STATE + ")*) at (?P<state>" + NUMBER + ")"),
    "hand": re.compile("hand " + NUMBER + " " + NUMBER),
    "do": re.compile("do " + NUMBER + " " + NUMBER + " :(?: " + NUMBER + ")+"),
    "settle": re.compile("settle " + NUMBER),
}


def text_of(rows):
    return "\n".join(rows)


def kind_of(row):
    """The word of a row that is one, by the words of the promise, or None."""
    for kind, form in FORMS.items():
        found = form.fullmatch(row)
        if found and (kind != "board" or is_table(found["table"])):
            return kind
    return None


def is_table(text):
    states = [re.findall(r"(\d+)\.", part) for part in text.split("/")]
    return len({len(part) for part in states}) == 1 and all(int(n) < len(states) for part in states for n in part)


def wrong_row(text):
    """The first row that can't stand there, or None."""
    rows = text.split("\n")
    hand_seen = False
    for number, row in enumerate(rows):
        kind = kind_of(row)
        if kind is None or (kind == "board") == hand_seen and kind != "hand":
            return number
        hand_seen = hand_seen or kind == "hand"
    return None if hand_seen else len(rows)


def wanted(text):
    """The house of a text whose rows may all stand there."""
    boards, hands = [], []
    for row in text.split("\n"):
        numbers = [int(figures) for figures in re.findall(r"\d+", row)]
        if row.startswith("board"):
            rows = [re.findall(r"(\d+)\.(\d+)", part) for part in row.split("/")]
            table = tuple(tuple((int(a), int(b)) for a, b in pairs) for pairs in rows)
            boards.append((table, numbers[-1]))
        elif row.startswith("hand"):
            hands.append((tuple(numbers), []))
        elif row.startswith("do"):
            hands[-1][1].append(("do", numbers[0], numbers[1], tuple(numbers[2:])))
        else:
            hands[-1][1].append(("settle", numbers[0]))
    return (tuple(boards), tuple((begins, tuple(lines)) for begins, lines in hands))


class Texts(unittest.TestCase):
    def no_text(self, text, row):
        with self.assertRaises(NoText, msg=text) as taken:
            read_house(text)
        self.assertEqual(taken.exception.row, row, text)
        self.assertIs(taken.exception.row.__class__, int)

    def no_house(self, rows, place):
        with self.assertRaises(NoHouse, msg=rows) as taken:
            read_house(text_of(rows))
        self.assertEqual(taken.exception.place, place, rows)

    def as_wanted(self, text):
        row = wrong_row(text)
        if row is not None:
            self.no_text(text, row)
            return
        house = wanted(text)
        try:
            look(house)
        except NoHouse as refusal:
            self.no_house(text.split("\n"), refusal.place)
        else:
            self.assertEqual(read_house(text), house)

    def changed(self, at, row):
        return SHOWN_ROWS[:at] + (row,) + SHOWN_ROWS[at + 1:]

    def test_the_rows_in_their_order(self):
        self.assertEqual(house_text(SHOWN), text_of(SHOWN_ROWS))
        self.assertEqual(read_house(text_of(SHOWN_ROWS)), SHOWN)

    def test_without_boards(self):
        house = ((), (((0, 0), (("settle", 0),)), ((0, 1), (("settle", 1), ("settle", 0))), ((0, 0), (("settle", 1),))))
        self.assertEqual(house_text(house), text_of(BARE_ROWS))
        self.assertEqual(read_house(text_of(BARE_ROWS)), house)

    def test_there_and_back(self):
        for house in [GOOD_OF_TWO, GOOD_OF_THREE, GOOD_BY_ONCE] + some_houses(300, 9):
            text = house_text(house)
            self.assertIs(text.__class__, str)
            self.assertEqual(wanted(text), house)
            told = read_house(text)
            self.assertEqual(told, house)
            self.assertLessEqual(kinds_within(told), {tuple, int, str})
            self.assertEqual(house_text(told), text)

    def test_greater_houses_than_the_bounds(self):
        table = tuple(tuple((s, s) for d in range(9)) for s in range(101))
        lines = tuple(("do", n % 12, n % 9, (n,) * 101) for n in range(200))
        house = (((table, 100),) * 12, (((0, 199), lines),) * 3)
        self.assertEqual(read_house(house_text(house)), house)

    def test_numbers_of_one_to_three_figures(self):
        for many in (10, 11, 100, 101, 110, 1000):
            lines = tuple(("do", 0, 0, ((n + 1) % many,)) for n in range(many))
            house = (((ONE_DEED, 0),), (((many - 1, many - 1), lines), ((0, 0), (("settle", 0),))))
            self.assertEqual(read_house(house_text(house)), house)

    def test_numbers_that_are_none(self):
        rows = {0: ("board 0.0 1.0 / 1.1 1.0 at {}", "board 0.0 1.0 / {}.1 1.0 at 1", "board 0.0 1.{} / 1.1 1.0 at 1"),
                2: ("hand {} 0", "hand 1 {}"), 3: ("settle {}",),
                5: ("do {} 0 : 0 1 2", "do 1 {} : 0 1 2", "do 1 0 : {} 1 2", "do 1 0 : 0 1 {}", "do 1 0 : {}"),
                6: ("hand {} 0", "hand 0 {}"), 7: ("settle {}",)}
        wrong = ("", "00", "01", "010", "1000", "0000", "9999", "+1", "-1", "-0", "1.", ".1", "a", "1a", "0x1", "1_0",
                 ":", "\u0661", "\u00b2", "1,")
        for at, forms in rows.items():
            for form, number in itertools.product(forms, wrong):
                self.no_text(text_of(self.changed(at, form.replace("{}", number))), at)

    def test_rows_that_are_none(self):
        bad = ("", " ", "x", "board", "hand", "do", "settle", "board ", "hand ", "at", ":", "boards 0.0 at 0",
               "Board 0.0 at 0", "board 0.0", "board 0.0 0", "board at 0", "board  at 0", "board 0.0 at",
               "board 0.0 at ", "board 0.0 at 0 0", "board 0.0 at 0 at 0", "board 0.0 At 0", "board 0.0 at0",
               "board 0.0at 0", "board0.0 at 0", "board 0 at 0", "board 1.0 at 0", "board 0.0 / 0.0 0.0 at 0",
               "board 0.0 /0.0 at 0", "board 0.0 / at 0", "board / 0.0 at 0", "board 0.0.0 at 0", "board 0.-1 at 0",
               " board 0.0 at 0", "board 0.0 at 0 ", "board  0.0 at 0", "board 0.0  at 0", "board 0.0 at  0",
               "0.0 at 0", "hand 0", "hand 0 0 0", "hand  0 0", "hand 0  0", " hand 0 0", "hand 0 0 ", "hand0 0",
               "hand 0,0", "hands 0 0", "Hand 0 0", "hand 0 : 0", "hand: 0 0", "0 0", "do 0 0", "do 0 0 :",
               "do 0 0 : ", "do 0 0 0", "do 0 0 0 0", "do 0 0 0 : 0", "do 0 : 0", "do : 0", "do 0 0: 0", "do 0 0 :0",
               "do 0 0 :: 0", "do 0 0 : 0 : 0", "do 0 0 : : 0", "do  0 0 : 0", "do 0  0 : 0", "do 0 0  : 0",
               "do 0 0 :  0", "do 0 0 : 0 ", " do 0 0 : 0", "do 0 0 : 0  0", "do 0 0 ; 0", "0 0 : 0", "Do 0 0 : 0",
               "settle 0 0", "settle  0", " settle 0", "settle 0 ", "settle0", "settles 0", "settle : 0", "settle",
               "settle ", "Settle 0", "0", "settle 0\t", "# settle 0")
        for at in range(len(SHOWN_ROWS)):
            for row in bad:
                self.no_text(text_of(self.changed(at, row)), at)
                self.no_text(text_of(SHOWN_ROWS[:at] + (row,) + SHOWN_ROWS[at:]), at)
        for row in bad:
            self.no_text(text_of(SHOWN_ROWS + (row,)), len(SHOWN_ROWS))
            self.no_text(text_of((row,) + BARE_ROWS), 0)
            if row:
                self.no_text(row, 0)

    def test_of_two_rows_that_are_none_the_first(self):
        for one, other in itertools.combinations(range(len(SHOWN_ROWS)), 2):
            rows = list(SHOWN_ROWS)
            rows[one], rows[other] = "x", "settle 0 0"
            self.no_text(text_of(rows), one)
            rows[one], rows[other] = "hand 00 0", ""
            self.no_text(text_of(rows), one)

    def test_a_boards_row_behind_a_hands(self):
        for at in range(3, len(SHOWN_ROWS) + 1):
            self.no_text(text_of(SHOWN_ROWS[:at] + ("board 0.0 at 0",) + SHOWN_ROWS[at:]), at)
        for at in range(1, len(BARE_ROWS) + 1):
            self.no_text(text_of(BARE_ROWS[:at] + ("board 0.0 at 0",) + BARE_ROWS[at:]), at)

    def test_a_lines_row_ahead_of_the_first_hand(self):
        for row in ("settle 0", "do 0 0 : 0"):
            for at in range(3):
                self.no_text(text_of(SHOWN_ROWS[:at] + (row,) + SHOWN_ROWS[at:]), at)
            self.no_text(row, 0)
            self.no_text(text_of((row,) + BARE_ROWS), 0)

    def test_no_hand_at_all(self):
        for many in range(1, 5):
            self.no_text(text_of(("board 0.0 at 0",) * many), many)
        # The board begins in no state; that there is no hand goes first.
        self.no_text("board 0.0 at 9", 1)

    def test_no_signs(self):
        self.no_text("", 0)

    def test_line_feeds_more(self):
        self.no_text(text_of(SHOWN_ROWS) + "\n", len(SHOWN_ROWS))
        self.no_text(text_of(SHOWN_ROWS) + "\n\n", len(SHOWN_ROWS))
        self.no_text("\n" + text_of(SHOWN_ROWS), 0)
        self.no_text("\n", 0)
        self.no_text("board 0.0 at 0\n", 1)
        for at in range(1, len(SHOWN_ROWS)):
            self.no_text(text_of(SHOWN_ROWS[:at] + ("",) + SHOWN_ROWS[at:]), at)

    def test_other_signs_part_no_rows(self):
        for sign in ("\r", "\r\n", "\x0b", "\x0c", "\x1c", "\x85", "\u2028", " ; ", ";"):
            self.no_text(sign.join(BARE_ROWS), 0)

    def test_a_house_that_is_wrong(self):
        self.no_house(("hand 0 0", "hand 0 0", "settle 0"), ("hand", 0))
        self.no_house(("hand 0 0", "settle 0", "hand 0 0"), ("hand", 1))
        self.no_house(("hand 0 0", "hand 0 0"), ("hand", 0))
        self.no_house(("hand 0 0",), ("hands",))
        self.no_house(("hand 0 0", "settle 0"), ("hands",))
        self.no_house(("hand 0 0", "settle 0") * 4, ("hands",))
        self.no_house(("board 0.0 at 1", "hand 0 0", "settle 0"), ("board", 0))
        self.no_house(("hand 1 0", "settle 0", "hand 0 0", "settle 0"), ("hand", 0))
        for at, row, place in (
                (0, "board 0.0 1.0 / 1.1 1.0 at 2", ("board", 0)), (1, "board 0.2 at 1", ("board", 1)),
                (2, "hand 3 0", ("hand", 0)), (2, "hand 0 999", ("hand", 0)), (6, "hand 0 1", ("hand", 1)),
                (3, "settle 2", ("line", 0, 0)), (7, "settle 999", ("line", 1, 0)),
                (4, "do 2 0 : 2 0", ("line", 0, 1)), (4, "do 0 2 : 2 0", ("line", 0, 1)),
                (4, "do 0 0 : 2 3", ("line", 0, 1)), (4, "do 0 0 : 2", ("line", 0, 1)),
                (4, "do 0 0 : 2 0 0", ("line", 0, 1)), (5, "do 1 1 : 0 1 2", ("line", 0, 2)),
                (5, "do 1 0 : 0 1", ("line", 0, 2)), (5, "do 1 0 : 0 1 2 0", ("line", 0, 2)),
                (5, "do 1 0 : 3 1 2", ("line", 0, 2)), (7, "do 1 0 : 0 0 1", ("line", 1, 0))):
            self.no_house(self.changed(at, row), place)

    def test_of_several_wrong_places_the_first(self):
        self.no_house(("board 0.0 at 0", "board 0.0 at 1", "board 0.0 at 1", "hand 0 0"), ("board", 1))
        self.no_house(("hand 9 0", "settle 2", "hand 9 0", "settle 2"), ("hand", 0))
        self.no_house(("hand 0 0", "settle 2", "hand 9 0", "settle 2"), ("line", 0, 0))

    def test_a_row_that_is_none_goes_ahead_of_a_house_that_is_wrong(self):
        self.no_text("board 0.0 at 1\nhand 0 0\nsettle 9\nhand 0 0\nsettle 0 0", 4)
        self.no_text("hand 0 0\nhand 0 0\nsettle", 2)
        self.no_text("hand 0 0\nsettle 0\n", 2)
        self.no_text(text_of(("hand 0 0", "settle 0") * 4 + ("board 0.0 at 0",)), 8)

    def test_all_texts_one_sign_away(self):
        rows = ("board 0.0 0.10 at 0", "hand 0 1", "do 0 1 : " + "0 " * 10 + "1", "settle 0", "hand 0 0", "settle 1")
        for text in (text_of(rows), "hand 0 0\nsettle 0\nhand 0 0\nsettle 0"):
            self.assertIsNone(wrong_row(text))
            for place in range(len(text) + 1):
                self.as_wanted(text[:place] + text[place + 1:])
                for sign in SIGNS:
                    self.as_wanted(text[:place] + sign + text[place:])
                    self.as_wanted(text[:place] + sign + text[place + 1:])

    def test_rows_left_out_doubled_and_exchanged(self):
        source = random.Random(99)
        for house in some_houses(150, 90):
            rows = house_text(house).split("\n")
            for k in range(8):
                mixed = list(rows)
                one, other = source.randrange(len(rows)), source.randrange(len(rows))
                mixed[one], mixed[other] = mixed[other], mixed[one]
                self.as_wanted(text_of(mixed))
                self.as_wanted(text_of(rows[:one] + rows[one + 1:]))
                self.as_wanted(text_of(rows[:one] + [rows[other]] + rows[one:]))

    def test_the_same_question_has_the_same_answer(self):
        houses = some_houses(30, 91, any_house)
        texts = [house_text(house) for house in houses]
        self.no_text("hand", 0)
        self.assertEqual([read_house(text) for text in reversed(texts)], houses[::-1])
        self.assertEqual([house_text(house) for house in reversed(houses)], texts[::-1])

    def test_arguments_by_their_names(self):
        self.assertEqual(read_house(text=text_of(SHOWN_ROWS)), SHOWN)
        self.assertEqual(house_text(house=SHOWN), text_of(SHOWN_ROWS))


if __name__ == "__main__":
    unittest.main()
