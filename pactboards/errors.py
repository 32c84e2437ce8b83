"""The refusals: one class each, all of them under PactError and none under another."""


class PactError(ValueError):
    pass


class NoTable(PactError):
    def __init__(self, at):
        self.at = at


class NoHouse(PactError):
    def __init__(self, place):
        self.place = place


class NoText(PactError):
    def __init__(self, row):
        self.row = row


class TooMany(PactError):
    def __init__(self, most):
        self.most = most


class NotMeek(PactError):
    def __init__(self, board):
        self.board = board


class NoMark(PactError):
    pass


class NotGood(PactError):
    pass


class NoRow(PactError):
    pass
