"""Stones by their numbers, sets of stones, rays, and the casts of points and stones."""

MOST_RAY = 1000000


def number_of(stone, width):
    return stone[1] * width + stone[0]


def stone_at(number, width):
    return (number % width, number // width)


def stones_of(bits, width):
    return [stone_at(number, width) for number in range(bits.bit_length()) if bits >> number & 1]


def bits_of(stones, width):
    bits = 0
    # A stone told twice is in the set once, so the bits are laid together and not summed.
    for stone in stones:
        bits |= 1 << number_of(stone, width)
    return bits


def is_ray(ray):
    return abs(ray[0]) <= MOST_RAY and abs(ray[1]) <= MOST_RAY and 1 <= ray[2] <= MOST_RAY


def cast(point, ray):
    return (ray[2] * point[0] + ray[0] * point[2], ray[2] * point[1] + ray[1] * point[2])


def stone_cast(stone, ray):
    return cast((2 * stone[0], 2 * stone[1], 0), ray)
