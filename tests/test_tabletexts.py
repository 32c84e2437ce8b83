"""Promise [6]: the texts of tables."""

import itertools
import random
import re
import unittest

from pactboards.errors import NoTable
from pactboards.tabletexts import read_table, table_text

SHOWN = "0.0 1.0 / 1.1 1.0"
SHOWN_TABLE = (((0, 0), (1, 0)), ((1, 1), (1, 0)))
SIGNS = "".join(chr(code) for code in range(32, 127)) + "\n"
NUMBER = "(?:0|[1-9][0-9]{0,2})"
PAIR = NUMBER + r"\." + NUMBER
STATE = PAIR + "(?: " + PAIR + ")*"
FORM = re.compile(STATE + "(?: / " + STATE + ")*")


def wanted(text):
    """The table by the words of the promise, or None."""
    if FORM.fullmatch(text) is None:
        return None
    table = tuple(tuple((int(a), int(b)) for a, b in re.findall(r"(\d+)\.(\d+)", part))
                  for part in text.split("/"))
    if len({len(row) for row in table}) > 1:
        return None
    if any(goal >= len(table) for row in table for goal, told in row):
        return None
    return table


def some_tables():
    source = random.Random(6)
    for states, deeds, most in itertools.product(range(1, 5), range(1, 5), (1, 4, 1000)):
        yield tuple(tuple((source.randrange(states), source.randrange(most)) for d in range(deeds))
                    for s in range(states))


class Texts(unittest.TestCase):
    def refused(self, text):
        with self.subTest(text=text):
            with self.assertRaises(NoTable) as taken:
                read_table(text)
            self.assertEqual(taken.exception.at, 0)
            self.assertIs(taken.exception.at.__class__, int)

    def taken(self, text, table):
        with self.subTest(text=text):
            self.assertEqual(read_table(text), table)
            self.assertEqual(table_text(table), text)

    def as_wanted(self, text):
        table = wanted(text)
        if table is None:
            self.refused(text)
        else:
            self.assertEqual(read_table(text), table, text)

    def test_the_text_that_is_shown(self):
        self.taken(SHOWN, SHOWN_TABLE)

    def test_written_out(self):
        self.taken("0.0", (((0, 0),),))
        self.taken("0.1 0.2 0.3", (((0, 1), (0, 2), (0, 3)),))
        self.taken("1.0 / 2.1 / 0.2", (((1, 0),), ((2, 1),), ((0, 2),)))

    def test_there_and_back(self):
        for table in some_tables():
            text = table_text(table)
            self.assertEqual(read_table(text), table)
            self.assertEqual(wanted(text), table)

    def test_tuples_and_whole_numbers_are_told(self):
        table = read_table("0.1 1.0 / 1.1 1.10")
        self.assertIs(table.__class__, tuple)
        for row in table:
            self.assertIs(row.__class__, tuple)
            for pair in row:
                self.assertIs(pair.__class__, tuple)
                self.assertEqual([number.__class__ for number in pair], [int, int])
        self.assertIs(table_text(table).__class__, str)

    def test_numbers_of_one_two_and_three_figures(self):
        for number in (0, 1, 9, 10, 11, 19, 20, 90, 99, 100, 101, 110, 500, 900, 990, 999):
            self.taken(f"0.{number}", (((0, number),),))
        for states in (9, 10, 11, 100, 101, 111, 400):
            table = tuple((((s + 1) % states, s),) for s in range(states))
            self.taken(table_text(table), table)

    def test_numbers_of_four_figures(self):
        for number in ("1000", "1001", "9999", "0000", "0001", "10000", "00000", "1" * 50):
            self.refused("0." + number)
            self.refused(number + ".0")
        many = [f"{state}.0" for state in range(1000)]
        self.assertEqual(len(read_table(" / ".join(many))), 1000)
        self.refused(" / ".join(many + ["1000.0"]))

    def test_a_nought_ahead_of_others(self):
        for number in ("00", "01", "09", "000", "001", "010", "011", "099"):
            self.refused("0." + number)
            self.refused(number + ".0")
            self.refused(number + ".0 / 1.0")
            self.refused("0.0 1.0 / 0.0 1." + number)

    def test_blanks(self):
        for text in (" " + SHOWN, SHOWN + " ", "0.0  1.0 / 1.1 1.0", "0.0 1.0  / 1.1 1.0", "0.0 1.0 /  1.1 1.0",
                     "0.0 1.0/ 1.1 1.0", "0.0 1.0 /1.1 1.0", "0.0 1.0/1.1 1.0", "0.01.0 / 1.1 1.0",
                     "0 .0", "0. 0", " 0.0", "0.0 ", " ", "  ", "0.0\t0.0", "0.0 /", "/ 0.0", " / 0.0", "0.0 / "):
            self.refused(text)

    def test_line_feeds_anywhere(self):
        for text in ("0.0", SHOWN, "0.12 0.0"):
            for place in range(len(text) + 1):
                self.refused(text[:place] + "\n" + text[place:])
                self.refused(text[:place] + "\n" + text[place + 1:])
        self.refused("\n")
        self.refused("0.0\n0.0")
        self.refused("0.0\n/\n0.0")

    def test_no_signs(self):
        self.refused("")

    def test_points_strokes_and_figures_more_or_fewer(self):
        for text in ("0", "0.", ".0", ".", "..", "0..0", "0.0.", ".0.0", "0.0.0", "00", "0.0 0", "0.0 .", "0 / 0",
                     "/", " / ", "//", "0.0 // 0.0", "0.0 / / 0.0", "0.0 /  / 0.0", "0.0 / 0.0 /", "0.0 / 0.0 / ",
                     "-1.0", "0.-1", "+0.0", "0.+0", "0.1_0", "0,0", "0.a", "a.0", "0x1.0", "0.0 \\ 0.0", "1e0.0"):
            self.refused(text)

    def test_figures_of_other_scripts(self):
        for sign in ("\u0661", "\u00b2", "\uff11"):
            self.refused("0." + sign)

    def test_states_with_unlike_numbers_of_deeds(self):
        for text in ("0.0 / 0.0 0.0", "0.0 0.0 / 0.0", "0.0 / 0.0 / 0.0 0.0", "0.0 / 0.0 0.0 / 0.0",
                     "0.0 0.0 / 0.0 / 0.0", "0.0 0.0 / 0.0 0.0 0.0 / 0.0"):
            self.refused(text)

    def test_a_pair_that_leads_to_no_state(self):
        for states, deeds in itertools.product(range(1, 5), range(1, 5)):
            for place, deed, wrong in itertools.product(range(states), range(deeds), (states, states + 1, 10, 999)):
                rows = [[f"{wrong if (s, d) == (place, deed) else states - 1}.0" for d in range(deeds)]
                        for s in range(states)]
                self.refused(" / ".join(" ".join(row) for row in rows))

    def test_all_short_texts(self):
        for size in range(7):
            for signs in itertools.product("01. /\n", repeat=size):
                self.as_wanted("".join(signs))

    def test_all_texts_one_sign_away(self):
        for text in ("0.0", SHOWN, "0.10 0.0 / 1.999 0.1"):
            for place in range(len(text) + 1):
                self.as_wanted(text[:place] + text[place + 1:])
                for sign in SIGNS:
                    self.as_wanted(text[:place] + sign + text[place:])
                    self.as_wanted(text[:place] + sign + text[place + 1:])

    def test_the_same_question_has_the_same_answer(self):
        tables = list(some_tables())
        texts = [table_text(table) for table in tables]
        self.refused("0.0 / 0")
        self.assertEqual([table_text(table) for table in reversed(tables)], texts[::-1])
        self.assertEqual([read_table(text) for text in reversed(texts)], tables[::-1])

    def test_arguments_by_their_names(self):
        self.assertEqual(read_table(text=SHOWN), SHOWN_TABLE)
        self.assertEqual(table_text(table=SHOWN_TABLE), SHOWN)


if __name__ == "__main__":
    unittest.main()
