"""Yards, and the refusal of stones, days and turns that are none of theirs.

A day is a tuple (name, times, turns).
"""

from shadowpost.errors import NoStone, NoTurn

MOST_SIDE = 20
MOST_THINGS = 40
MOST_DAYS = 12
MOST_TURNS = 24
MOST_TIMES = 1000000000


class Yard:
    def __init__(self, width, height, things, days):
        self.width = width
        self.height = height
        self.things = list(things)
        self.days = [(name, times, list(turns)) for name, times, turns in days]


def has_stone(yard, stone):
    return 0 <= stone[0] < yard.width and 0 <= stone[1] < yard.height


def turns_of(yard, day):
    return yard.days[day][2]


def has_day(yard, day):
    return 0 <= day < len(yard.days)


def check_stone(yard, stone):
    if not has_stone(yard, stone):
        raise NoStone(stone)


def check_day(yard, day):
    if not has_day(yard, day):
        raise NoTurn(day, None)


def check_turn(yard, day, turn):
    if not has_day(yard, day) or not 0 <= turn < len(turns_of(yard, day)):
        raise NoTurn(day, turn)
