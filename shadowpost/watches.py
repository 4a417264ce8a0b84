"""Stones that are watched, lit or dark, to tell the turns of a day apart."""

from shadowpost.covers import least_choice, set_of_true
from shadowpost.darks import is_dark
from shadowpost.errors import NoStone
from shadowpost.rays import stone_at
from shadowpost.yards import turns_of


def check_numbers(yard, numbers):
    for number in numbers:
        if not 0 <= number < yard.width * yard.height:
            raise NoStone(number)


def pairs_of_turns(yard):
    pairs = []
    for day in range(len(yard.days)):
        many = len(turns_of(yard, day))
        for t in range(many):
            pairs.extend([(day, t, u) for u in range(t + 1, many)])
    return pairs


def darks_by_day(yard, stone):
    darks = []
    for day in range(len(yard.days)):
        darks.append([is_dark(yard, turn, stone) for turn in turns_of(yard, day)])
    return darks


def told_apart_by(yard, number, pairs):
    darks = darks_by_day(yard, stone_at(number, yard.width))
    return set_of_true([darks[day][t] != darks[day][u] for day, t, u in pairs])


def watch(yard, numbers):
    check_numbers(yard, numbers)
    pairs = pairs_of_turns(yard)
    covers = [told_apart_by(yard, number, pairs) for number in numbers]
    told = least_choice([1 for number in numbers], covers, len(pairs))
    if told[0] == "none":
        return ("alike",) + pairs[told[1]]
    return told
