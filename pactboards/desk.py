"""The desk: it keeps a house, and answers rows of words about it."""

from pactboards.ends import ends_of
from pactboards.errors import NoRow
from pactboards.graphs import stands_of
from pactboards.houses import inputs_of
from pactboards.housetexts import read_house
from pactboards.keptopen import kept_open
from pactboards.papers import paper_of
from pactboards.rebuild import rebuilt
from pactboards.stands import begin, run
from pactboards.tabletexts import read_number

FIGURES = "012"


class Desk:
    def __init__(self):
        # The last one is kept; those ahead of it are there to go back to.
        self.houses = []

    def say(self, row):
        if "\n" in row:
            raise NoRow()
        if row.startswith("house "):
            return self.keep_read(row[len("house "):])
        if len(self.houses) == 0:
            raise NoRow()
        words = row.split(" ")
        if words == ["back"]:
            return self.go_back()
        if words[0] == "rebuild" and len(words) == 2:
            return self.keep_rebuilt(words[1])
        return told_of(self.houses[-1], words)

    def keep_read(self, text):
        house = read_house(text.replace(" ; ", "\n"))
        many = len(stands_of(house))
        self.houses.append(house)
        return joined(["kept"] + sizes(house) + [many])

    def keep_rebuilt(self, word):
        board = read_number(word)
        if board is None:
            raise NoRow()
        house = rebuilt(self.houses[-1], board)[0]
        self.houses.append(house)
        return joined(["rebuilt"] + sizes(house) + [sum([len(lines) for begins, lines in house[1]])])

    def go_back(self):
        if len(self.houses) < 2:
            raise NoRow()
        self.houses.pop()
        return joined(["kept"] + sizes(self.houses[-1]))


def joined(words):
    return " ".join([str(word) for word in words])


def sizes(house):
    return [len(house[1]), len(house[0])]


def told_of(house, words):
    if words == ["paper"]:
        return paper_text(house)
    if words == ["open"]:
        return open_text(house)
    if words[0] == "run" and len(words) == 3:
        return stand_text(stand_behind(house, words[1], words[2]))
    if words[0] == "ends" and len(words) == 3:
        ends = ends_of(house, stand_behind(house, words[1], words[2]))
        return joined(ends) if len(ends) > 0 else "-"
    raise NoRow()


def paper_text(house):
    paper = paper_of(house)
    if paper[0] == "good":
        return joined(["good", max([paper[1][begin(house, inputs)] for inputs in inputs_of(house)])])
    return joined([paper[0]] + [row_text(row) for row in paper[1:]])


def open_text(house):
    told = kept_open(house)
    if told[0] == "unsafe":
        return "unsafe"
    if told[0] == "alone":
        return joined(["alone", told[3], row_text(told[1]), row_text(told[2])])
    return joined(["open"] + [row_text(row) for row in told[1:4]])


def row_text(row):
    return "".join([str(number) for number in row]) if len(row) > 0 else "-"


def stand_text(stand):
    if len(stand[1]) == 0:
        return joined(stand[0])
    return joined(stand[0] + ("/",) + stand[1])


def stand_behind(house, inputs, turns):
    hands = len(house[1])
    if len(inputs) != hands:
        raise NoRow()
    given = read_figures(inputs, FIGURES[:2])
    gone = () if turns == "-" else read_figures(turns, FIGURES[:hands])
    return run(house, begin(house, given), gone)[-1]


def read_figures(word, figures):
    if len(word) == 0 or not all([sign in figures for sign in word]):
        raise NoRow()
    return tuple([int(sign) for sign in word])
