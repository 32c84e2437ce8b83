"""The texts of tables: a table written as one, and read from one."""

from pactboards.errors import NoTable
from pactboards.tables import is_table

FIGURES = "0123456789"
MOST_FIGURES = 3


def table_text(table):
    return " / ".join([state_text(row) for row in table])


def state_text(row):
    return " ".join([f"{goal}.{told}" for goal, told in row])


def read_table(text):
    table = tuple([read_state(part) for part in text.split(" / ")])
    if not is_table(table):
        raise NoTable(0)
    return table


def read_state(text):
    return tuple([read_pair(word) for word in text.split(" ")])


def read_pair(word):
    pair = tuple([read_number(part) for part in word.split(".")])
    if len(pair) != 2 or None in pair:
        raise NoTable(0)
    return pair


def read_number(word):
    # None where it is no number: each asker has a refusal of its own.
    if not 1 <= len(word) <= MOST_FIGURES:
        return None
    if not all([sign in FIGURES for sign in word]):
        return None
    if word[0] == "0" and len(word) > 1:
        return None
    return int(word)
