"""A hand alone: whether it settles where all turns are its own."""

from pactboards.stands import behind, line_at


def alone(house, stand, hand):
    # A stand's number is how many deeds lead to it.
    numbers = {}
    here = stand
    while here not in numbers:
        line = line_at(house, here, hand)
        if line[0] == "settle":
            return ("settles", line[1], len(numbers))
        numbers[here] = len(numbers)
        here = behind(house, here, hand)
    return ("round", numbers[here], len(numbers) - numbers[here])
