"""Where a thing shades a stone."""

from shadowpost.hulls import held
from shadowpost.rays import cast, stone_cast


def corner_casts(thing, ray):
    return [cast(corner, ray) for corner in thing.corners()]


def shading(thing, stone, ray):
    return held(corner_casts(thing, ray), stone_cast(stone, ray))


def shades(thing, stone, ray):
    return shading(thing, stone, ray)[0] == "in"
