"""The refusals: each is a class of its own, straight under YardError.

The fields of a refusal are what was handed in, under the names of its parameters.
"""


class YardError(ValueError):
    pass


class NoNumber(YardError):
    pass


class BadThing(YardError):
    pass


class NoStone(YardError):
    def __init__(self, stone):
        self.stone = stone


class NoTurn(YardError):
    def __init__(self, day, turn):
        self.day = day
        self.turn = turn


class BadRow(YardError):
    def __init__(self, row):
        self.row = row


class NoRow(YardError):
    pass


class NoDay(YardError):
    def __init__(self, name):
        self.name = name
