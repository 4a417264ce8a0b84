"""Offered things that keep wanted stones dark, at the least price."""

from shadowpost.covers import least_choice, set_of_true
from shadowpost.darks import is_dark
from shadowpost.shades import shades
from shadowpost.yards import check_stone, check_turn, turns_of


def check_wants(yard, wants):
    for stone, day, turn in wants:
        check_stone(yard, stone)
        check_turn(yard, day, turn)


def met_at_once(yard, wants):
    return set_of_true([is_dark(yard, turns_of(yard, day)[turn], stone) for stone, day, turn in wants])


def gives_shade(thing, stone, turn):
    # At night the want is met by the yard as it stands; a thing has no shade then.
    return turn is not None and shades(thing, stone, turn)


def met_by_thing(yard, thing, wants):
    return set_of_true([gives_shade(thing, stone, turns_of(yard, day)[turn]) for stone, day, turn in wants])


def keep_dark(yard, offers, wants):
    check_wants(yard, wants)
    prices = [price for thing, price in offers]
    covers = [met_by_thing(yard, thing, wants) for thing, price in offers]
    return least_choice(prices, covers, len(wants), met_at_once(yard, wants))
