"""What the tests reckon by themselves, by other ways than the program's."""

from fractions import Fraction
from math import gcd


def turn_of(one, other, third):
    return (other[0] - one[0]) * (third[1] - one[1]) - (other[1] - one[1]) * (third[0] - one[0])


def half_hull(points):
    hull = []
    for point in points:
        while len(hull) > 1 and turn_of(hull[-2], hull[-1], point) <= 0:
            hull.pop()
        hull.append(point)
    return hull


def is_amid(points, point):
    """Whether a pair is in the hull of some: the hull's corners in a ring, none of whose sides it is right of."""
    ordered = sorted(set(points))
    ring = half_hull(ordered)[:-1] + half_hull(ordered[::-1])[:-1]
    if len(ordered) == 1:
        return point == ordered[0]
    if len(ring) == 2:
        return turn_of(ring[0], ring[1], point) == 0 and ordered[0] <= point <= ordered[-1]
    return all(turn_of(one, other, point) >= 0 for one, other in zip(ring, ring[1:] + ring[:1]))


def check_fraction(case, fraction):
    case.assertIs(type(fraction), tuple)
    case.assertEqual([type(number) for number in fraction], [int, int])
    case.assertGreaterEqual(fraction[1], 1)
    case.assertEqual(gcd(fraction[0], fraction[1]), 1)


def check_weights(case, weights, points, point):
    case.assertIs(type(weights), list)
    case.assertEqual(len(weights), len(points))
    for weight in weights:
        check_fraction(case, weight)
        case.assertGreaterEqual(weight[0], 0)
    shares = [Fraction(top, bottom) for top, bottom in weights]
    case.assertEqual(sum(shares), 1)
    case.assertEqual(sum(share * pair[0] for share, pair in zip(shares, points)), point[0])
    case.assertEqual(sum(share * pair[1] for share, pair in zip(shares, points)), point[1])


def check_line(case, line, points, point):
    case.assertIs(type(line), tuple)
    case.assertEqual([type(number) for number in line], [int, int, int])
    l, m, n = line
    for right, down in points:
        case.assertLessEqual(l * right + m * down, n)
    case.assertGreater(l * point[0] + m * point[1], n)


def check_held(case, told, points, point):
    """Checks an answer of weights or a line by what it must do; gives back its word."""
    case.assertIs(type(told), tuple)
    case.assertEqual(len(told), 2)
    case.assertEqual(told[0], "in" if is_amid(points, point) else "out")
    if told[0] == "in":
        check_weights(case, told[1], points, point)
    else:
        check_line(case, told[1], points, point)
    return told[0]


def is_shaded(thing, stone, ray):
    """Whether a stone's middle is in the hull of the shadows of a thing's corners on the ground."""
    a, b, c = ray
    shadows = [(x + Fraction(a * z, c), y + Fraction(b * z, c)) for x, y, z in thing.corners()]
    return is_amid(shadows, (2 * stone[0], 2 * stone[1]))


def stones_in(yard):
    return [(p, q) for q in range(yard.height) for p in range(yard.width)]


def is_in_the_dark(yard, stone, turn):
    return turn is None or any(is_shaded(thing, stone, turn) for thing in yard.things)


def dark_stones(yard, turn):
    """A list with, for each stone in the order of the numbers, whether it is dark."""
    return [is_in_the_dark(yard, stone, turn) for stone in stones_in(yard)]


def set_of(truths):
    return sum(2 ** number for number, truth in enumerate(truths) if truth)
