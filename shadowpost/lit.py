"""When stones are lit: at which turns, when first, ever, and how many turns of the year."""

from shadowpost.darks import dark, is_dark
from shadowpost.yards import check_day, check_stone, turns_of


def lit_turns(yard, day, stone):
    check_stone(yard, stone)
    check_day(yard, day)
    return [number for number, turn in enumerate(turns_of(yard, day)) if not is_dark(yard, turn, stone)]


def first_lit(yard, stone):
    check_stone(yard, stone)
    for day in range(len(yard.days)):
        for number, turn in enumerate(turns_of(yard, day)):
            if not is_dark(yard, turn, stone):
                return (day, number)
    return None


def lit_set(yard, turn):
    return dark(yard, None) & ~dark(yard, turn)


def ever_lit(yard):
    bits = 0
    for day in range(len(yard.days)):
        for turn in turns_of(yard, day):
            bits |= lit_set(yard, turn)
    return bits


def hours(yard):
    sums = [0 for number in range(yard.width * yard.height)]
    for name, times, turns in yard.days:
        for turn in turns:
            bits = lit_set(yard, turn)
            sums = [hour + times * (bits >> number & 1) for number, hour in enumerate(sums)]
    return sums
