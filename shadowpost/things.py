"""Things that stand or hang in a yard: their bounds, and their corners in order."""

from shadowpost.errors import BadThing

MOST_PLACE = 1000000000
MOST_HEIGHT = 1000000000


def is_place(number):
    return -MOST_PLACE <= number <= MOST_PLACE


def is_height(number):
    return 1 <= number <= MOST_HEIGHT


def is_cloth_corner(numbers):
    # A corner of a cloth may lie on the ground, where nothing else may be without height.
    return is_place(numbers[0]) and is_place(numbers[1]) and 0 <= numbers[2] <= MOST_HEIGHT


def makes_post(numbers):
    return len(numbers) == 3 and is_place(numbers[0]) and is_place(numbers[1]) and is_height(numbers[2])


def has_two_ends(numbers):
    return len(numbers) == 5 and all([is_place(number) for number in numbers[:4]]) and is_height(numbers[4])


def makes_fence(numbers):
    return has_two_ends(numbers) and numbers[:2] != numbers[2:4]


def makes_sail_or_house(numbers):
    return has_two_ends(numbers) and numbers[0] < numbers[2] and numbers[1] < numbers[3]


def makes_cloth(numbers):
    return len(numbers) == 9 and all([is_cloth_corner(numbers[place:place + 3]) for place in (0, 3, 6)])


def level_corners(x, y, u, v, z):
    return [(x, y, z), (u, y, z), (u, v, z), (x, v, z)]


def block_corners(x, y, u, v, h):
    return level_corners(x, y, u, v, 0) + level_corners(x, y, u, v, h)


class Thing:
    def __init__(self, word, numbers):
        self.word = word
        self.numbers = list(numbers)

    def shown(self):
        return " ".join([self.word] + [str(number) for number in self.numbers])


class Post(Thing):
    def corners(self):
        right = 2 * self.numbers[0]
        down = 2 * self.numbers[1]
        return block_corners(right - 1, down - 1, right + 1, down + 1, self.numbers[2])


class Fence(Thing):
    def corners(self):
        given = self.numbers
        one = (given[0], given[1])
        other = (given[2], given[3])
        return [one + (0,), other + (0,), other + (given[4],), one + (given[4],)]


class Sail(Thing):
    def corners(self):
        given = self.numbers
        return level_corners(given[0], given[1], given[2], given[3], given[4])


class Cloth(Thing):
    def corners(self):
        return [tuple(self.numbers[place:place + 3]) for place in (0, 3, 6)]


class House(Thing):
    def corners(self):
        given = self.numbers
        return block_corners(given[0], given[1], given[2], given[3], given[4])


def thing_of(word, numbers):
    if word == "post" and makes_post(numbers):
        return Post(word, numbers)
    if word == "fence" and makes_fence(numbers):
        return Fence(word, numbers)
    if word == "sail" and makes_sail_or_house(numbers):
        return Sail(word, numbers)
    if word == "cloth" and makes_cloth(numbers):
        return Cloth(word, numbers)
    if word == "house" and makes_sail_or_house(numbers):
        return House(word, numbers)
    raise BadThing()
