"""Things, rays and yards for the tests, and the same moved, mirrored or changed about."""

from shadowpost.things import thing_of
from shadowpost.yards import Yard

WORDS = ("post", "fence", "sail", "cloth", "house")


def thing_by(chance, most, word=None):
    """A thing over a yard of most by most stones, or a little beside it."""
    word = word or chance.choice(WORDS)
    place = lambda: chance.randint(-3, 2 * most + 2)
    height = lambda: chance.randint(1, 6)
    if word == "post":
        return thing_of(word, [chance.randint(-1, most), chance.randint(-1, most), height()])
    if word == "cloth":
        return thing_of(word, [number for k in range(3) for number in (place(), place(), chance.randint(0, 6))])
    x, y = place(), place()
    u, v = x + chance.randint(1, 5), y + chance.randint(1, 5)
    if word == "fence" and chance.randint(0, 1):
        v = y
    return thing_of(word, [x, y, u, v, height()])


def ray_by(chance):
    return (chance.randint(-6, 6), chance.randint(-6, 6), chance.randint(1, 4))


def turn_by(chance):
    return None if chance.randint(0, 4) == 0 else ray_by(chance)


def yard_by(chance, width, height, things, turns):
    """A yard with so many things and a day of each of the counts of turns."""
    stands = [thing_by(chance, max(width, height)) for k in range(things)]
    days = []
    for number, count in enumerate(turns):
        days.append(("abcdefghijkl"[number], chance.randint(1, 90), [turn_by(chance) for k in range(count)]))
    return Yard(width, height, stands, days)


def numbers_of(thing):
    words = thing.shown().split(" ")
    return words[0], [int(word) for word in words[1:]]


def moved(thing, right, down):
    """The thing so many stones to the right and down."""
    word, numbers = numbers_of(thing)
    if word == "post":
        return thing_of(word, [numbers[0] + right, numbers[1] + down, numbers[2]])
    if word == "cloth":
        by = [2 * right, 2 * down, 0] * 3
    else:
        by = [2 * right, 2 * down, 2 * right, 2 * down, 0]
    return thing_of(word, [number + more for number, more in zip(numbers, by)])


def mirrored(thing):
    """The thing with right and left changed about, over the middle of the stone (0, 0)."""
    word, numbers = numbers_of(thing)
    if word == "post":
        return thing_of(word, [-numbers[0], numbers[1], numbers[2]])
    if word == "cloth":
        return thing_of(word, [-n if k % 3 == 0 else n for k, n in enumerate(numbers)])
    x, y, u, v, h = numbers
    return thing_of(word, [-x, y, -u, v, h] if word == "fence" else [-u, y, -x, v, h])


def changed_about(thing):
    """The thing with right and down changed about."""
    word, numbers = numbers_of(thing)
    if word == "post":
        return thing_of(word, [numbers[1], numbers[0], numbers[2]])
    if word == "cloth":
        a, b, c, d, e, f, g, h, i = numbers
        return thing_of(word, [b, a, c, e, d, f, h, g, i])
    x, y, u, v, h = numbers
    return thing_of(word, [y, x, v, u, h])


def yard_changed_about(yard):
    days = []
    for name, times, turns in yard.days:
        days.append((name, times, [turn and (turn[1], turn[0], turn[2]) for turn in turns]))
    return Yard(yard.height, yard.width, [changed_about(thing) for thing in yard.things], days)
