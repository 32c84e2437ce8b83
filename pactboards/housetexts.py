"""The texts of houses: a house written as one, and read from one."""

from pactboards.errors import NoTable, NoText
from pactboards.houses import look
from pactboards.tabletexts import read_number, read_table, table_text


def house_text(house):
    rows = [board_row(table, state) for table, state in house[0]]
    for begins, lines in house[1]:
        rows.append("hand " + numbers_text(begins))
        rows.extend([line_row(line) for line in lines])
    return "\n".join(rows)


def board_row(table, state):
    text = table_text(table)
    return f"board {text} at {state}"


def line_row(line):
    if line[0] == "settle":
        return "settle " + numbers_text(line[1:])
    return "do " + numbers_text(line[1:3]) + " : " + numbers_text(line[3])


def numbers_text(numbers):
    return " ".join([str(number) for number in numbers])


def read_house(text):
    rows = text.split("\n")
    boards = read_boards(rows)
    house = (boards, read_hands(rows, len(boards)))
    look(house)
    return house


def read_boards(rows):
    boards = []
    for at, row in enumerate(rows):
        if not row.startswith("board "):
            return tuple(boards)
        boards.append(read_board(at, row))
    # Each row is a board's: the end comes where a hand must stand.
    raise NoText(len(rows))


def read_board(at, row):
    parts = row.rpartition(" at ")
    ahead = parts[0].partition(" ")
    try:
        table = read_table(ahead[2])
    except NoTable:
        raise NoText(at) from None
    return (table, read_numbers(at, [parts[2]])[0])


def read_hands(rows, first):
    hands = []
    for at in range(first, len(rows)):
        words = rows[at].split(" ")
        if words[0] == "hand" and len(words) == 3:
            hands.append((read_numbers(at, words[1:]), []))
        elif len(hands) > 0:
            hands[-1][1].append(read_line(at, words))
        else:
            raise NoText(at)
    return tuple([(begins, tuple(lines)) for begins, lines in hands])


def read_line(at, words):
    if words[0] == "settle" and len(words) == 2:
        return ("settle",) + read_numbers(at, words[1:])
    if words[0] == "do" and len(words) > 4 and words[3] == ":":
        return ("do",) + read_numbers(at, words[1:3]) + (read_numbers(at, words[4:]),)
    raise NoText(at)


def read_numbers(at, words):
    numbers = tuple([read_number(word) for word in words])
    if None in numbers:
        raise NoText(at)
    return numbers
