"""The dark of things and yards, and which things make it."""

from shadowpost.hulls import lines_about
from shadowpost.shades import corner_casts, shades


def span_bits(first, last):
    if last < first:
        return 0
    return (1 << last + 1) - (1 << first)


# The stones of one row that all the lines hold lie side by side, so it is enough to find the first
# and the last of them; unit is how far the casts of two stones side by side lie apart.
def row_bits(lines, unit, q, width):
    first = 0
    last = width - 1
    for l, m, n in lines:
        step = l * unit
        room = n - m * unit * q
        if step > 0:
            last = min(last, room // step)
        elif step < 0:
            # The least p with step p at most room: the quotient, rounded up.
            first = max(first, -(room // -step))
        elif room < 0:
            return 0
    return span_bits(first, last)


def dark_of(yard, thing, ray):
    lines = lines_about(corner_casts(thing, ray))
    bits = 0
    for q in range(yard.height):
        bits |= row_bits(lines, 2 * ray[2], q, yard.width) << q * yard.width
    return bits


def darks_of_things(yard, ray):
    return [dark_of(yard, thing, ray) for thing in yard.things]


def dark(yard, turn):
    if turn is None:
        return span_bits(0, yard.width * yard.height - 1)
    bits = 0
    for some in darks_of_things(yard, turn):
        bits |= some
    return bits


def is_dark(yard, turn, stone):
    if turn is None:
        return True
    for thing in yard.things:
        if shades(thing, stone, turn):
            return True
    return False


def least_holding(sets, number):
    for place, bits in enumerate(sets):
        if bits >> number & 1:
            return place
    return None


def who(yard, ray):
    sets = darks_of_things(yard, ray)
    return [least_holding(sets, number) for number in range(yard.width * yard.height)]


def alone(yard, ray):
    sets = darks_of_things(yard, ray)
    once = 0
    twice = 0
    for bits in sets:
        twice |= once & bits
        once |= bits
    return [bits & ~twice for bits in sets]
