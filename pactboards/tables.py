"""Tables: where the deeds on a board lead, what they are answered, and which tables are plain or meek."""


def next_state(table, state, deed):
    return table[state][deed][0]


def answer(table, state, deed):
    return table[state][deed][1]


def answers(table, deed):
    return 1 + max([row[deed][1] for row in table])


def is_look(table, deed):
    return all([row[deed][0] == state for state, row in enumerate(table)])


def is_laying(table, deed):
    goal = next_state(table, 0, deed)
    return answers(table, deed) == 1 and all([row[deed][0] == goal for row in table])


def is_plain(table):
    return all([is_look(table, deed) or is_laying(table, deed) for deed in range(len(table[0]))])


def meek_at(table, one, other, state):
    by_one = next_state(table, state, one)
    by_other = next_state(table, state, other)
    one_first = next_state(table, by_one, other)
    other_first = next_state(table, by_other, one)
    return one_first == other_first or one_first == by_other or other_first == by_one


def is_meek(table):
    # A deed is always meek with itself, and meek_at is the same for both
    # orders of two deeds: so each two are asked once.
    for one in range(len(table[0])):
        for other in range(one):
            if not all([meek_at(table, one, other, state) for state in range(len(table))]):
                return False
    return True


def is_table(table):
    # Read texts and houses that are looked at may hold any rows of pairs; both refuse by this.
    if len(table) == 0 or len(table[0]) == 0:
        return False
    return all([is_state(table, row) for row in table])


def is_state(table, row):
    if len(row) != len(table[0]):
        return False
    return all([0 <= goal < len(table) and told >= 0 for goal, told in row])
