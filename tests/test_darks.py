import random
import unittest

from reckoning import dark_stones, is_shaded, set_of, stones_in
from samples import WORDS, ray_by, thing_by, turn_by, yard_by
from shadowpost.darks import alone, dark, dark_of, who
from shadowpost.rays import bits_of
from shadowpost.shades import shades
from shadowpost.things import thing_of
from shadowpost.yards import Yard

FAR = 10 ** 9
MOST = 10 ** 6
SIZES = [(1, 1), (5, 1), (1, 5), (4, 3), (3, 4), (7, 7)]
RAYS = [(0, 0, 1), (0, 0, MOST), (1, 0, 1), (0, 1, 1), (-1, 0, 2), (0, -3, 2), (MOST, -MOST, 1), (1, 1, MOST)]


def some_yards(seed, things=(0, 1, 2, 5)):
    chance = random.Random(seed)
    for width, height in SIZES:
        for count in things:
            yard = yard_by(chance, width, height, count, [])
            yield yard, RAYS[:4] + [ray_by(chance) for k in range(4)]


class Case(unittest.TestCase):
    def check_set(self, bits, wanted):
        self.assertIs(type(bits), int)
        self.assertEqual(bits, wanted)


class DarkOf(Case):
    def test_ordinary_things(self):
        yard = Yard(4, 3, [], [])
        post = thing_of("post", [1, 1, 3])
        self.check_set(dark_of(yard, post, (0, 0, 1)), bits_of([(1, 1)], 4))
        self.check_set(dark_of(yard, post, (1, 0, 1)), bits_of([(1, 1), (2, 1), (3, 1)], 4))
        self.check_set(dark_of(yard, post, (-1, 0, 1)), bits_of([(1, 1), (0, 1)], 4))
        self.check_set(dark_of(yard, post, (0, 1, 1)), bits_of([(1, 1), (1, 2)], 4))
        sail = thing_of("sail", [2, 0, 4, 4, 1])
        self.check_set(dark_of(yard, sail, (0, 0, 1)), bits_of([(p, q) for p in (1, 2) for q in (0, 1, 2)], 4))

    def test_it_tells_the_stones_one_by_one(self):
        chance = random.Random(31)
        for width, height in SIZES:
            yard = Yard(width, height, [], [])
            for word in WORDS:
                for k in range(8):
                    thing = thing_by(chance, max(width, height), word)
                    for ray in RAYS + [ray_by(chance)]:
                        told = [shades(thing, stone, ray) for stone in stones_in(yard)]
                        self.check_set(dark_of(yard, thing, ray), set_of(told))

    def test_against_the_shadows_on_the_ground(self):
        chance = random.Random(32)
        yard = Yard(6, 5, [], [])
        for word in WORDS:
            for k in range(10):
                thing, ray = thing_by(chance, 6, word), ray_by(chance)
                self.check_set(dark_of(yard, thing, ray), set_of(is_shaded(thing, s, ray) for s in stones_in(yard)))

    def test_a_thing_that_does_not_stand_in_the_yard(self):
        yard = Yard(3, 1, [thing_of("post", [0, 0, 1])], [])
        self.check_set(dark_of(yard, thing_of("post", [2, 0, 1]), (0, 0, 1)), 4)
        self.check_set(dark_of(yard, thing_of("post", [-1, 0, 5]), (1, 0, 1)), 7)
        self.check_set(dark_of(yard, thing_of("post", [3, 0, 4]), (-1, 0, 1)), 6)
        self.check_set(dark_of(yard, thing_of("post", [3, 0, 4]), (1, 0, 1)), 0)
        self.assertEqual(len(yard.things), 1)

    def test_things_far_from_the_yard(self):
        yard = Yard(20, 20, [], [])
        for p, q in [(FAR, 0), (-FAR, 0), (0, FAR), (0, -FAR), (FAR, -FAR), (20, 3), (-1, 3), (3, 20), (3, -1)]:
            self.check_set(dark_of(yard, thing_of("post", [p, q, 1]), (0, 0, 1)), 0)
        for p, q in [(FAR, 3), (-FAR, 3)]:
            row = bits_of([(p, 3) for p in range(20)], 20)
            self.check_set(dark_of(yard, thing_of("post", [p, q, FAR]), (-MOST if p > 0 else MOST, 0, 1)), row)

    def test_all_stones_of_the_greatest_yard(self):
        yard = Yard(20, 20, [], [])
        self.check_set(dark_of(yard, thing_of("sail", [-FAR, -FAR, FAR, FAR, FAR]), (0, 0, MOST)), 2 ** 400 - 1)
        self.check_set(dark_of(yard, thing_of("house", [0, 0, 38, 38, 1]), (0, 0, 1)), 2 ** 400 - 1)
        inner = bits_of([(p, q) for p in range(1, 19) for q in range(1, 19)], 20)
        self.check_set(dark_of(yard, thing_of("house", [1, 1, 37, 37, 1]), (0, 0, 1)), inner)


class Dark(Case):
    def test_no_things(self):
        for width, height in SIZES + [(20, 20)]:
            for ray in RAYS:
                self.check_set(dark(Yard(width, height, [], []), ray), 0)

    def test_at_night_all_stones(self):
        for width, height in SIZES + [(20, 20), (20, 1), (1, 20)]:
            for things in ([], [thing_of("post", [0, 0, 1])]):
                self.check_set(dark(Yard(width, height, things, []), None), 2 ** (width * height) - 1)

    def test_several_things(self):
        yard = Yard(4, 2, [thing_of("post", [0, 0, 1]), thing_of("post", [2, 1, 1])], [])
        self.check_set(dark(yard, (0, 0, 1)), bits_of([(0, 0), (2, 1)], 4))
        self.check_set(dark(yard, (1, 0, 1)), bits_of([(0, 0), (1, 0), (2, 1), (3, 1)], 4))

    def test_against_the_shadows_on_the_ground(self):
        chance = random.Random(33)
        for yard, rays in some_yards(34):
            for ray in rays[-3:] + [turn_by(chance)]:
                self.check_set(dark(yard, ray), set_of(dark_stones(yard, ray)))

    def test_the_dark_of_each_thing_laid_together(self):
        for yard, rays in some_yards(35):
            for ray in rays:
                wanted = 0
                for thing in yard.things:
                    wanted |= dark_of(yard, thing, ray)
                self.check_set(dark(yard, ray), wanted)

    def test_the_things_in_another_order(self):
        for yard, rays in some_yards(36):
            other = Yard(yard.width, yard.height, yard.things[::-1], yard.days)
            for ray in rays:
                self.check_set(dark(other, ray), dark(yard, ray))

    def test_40_things(self):
        things = [thing_of("post", [(7 * k) % 20, (3 * k) % 20, 1]) for k in range(40)]
        yard = Yard(20, 20, things, [])
        wanted = bits_of([((7 * k) % 20, (3 * k) % 20) for k in range(40)], 20)
        self.check_set(dark(yard, (0, 0, 1)), wanted)


class Who(Case):
    def check_who(self, told, wanted):
        self.assertIs(type(told), list)
        self.assertEqual(told, wanted)
        self.assertTrue(all(number is None or type(number) is int for number in told))

    def test_a_yard_without_things(self):
        for width, height in SIZES:
            self.check_who(who(Yard(width, height, [], []), (1, 0, 1)), [None] * (width * height))

    def test_the_least_number_among_several(self):
        post, sail = thing_of("post", [1, 0, 3]), thing_of("sail", [2, 0, 6, 2, 1])
        self.check_who(who(Yard(4, 2, [post, sail], []), (0, 0, 1)), [None, 0, 1, 1, None, 1, 1, 1])
        self.check_who(who(Yard(4, 2, [sail, post], []), (0, 0, 1)), [None, 0, 0, 0, None, 0, 0, 0])
        self.check_who(who(Yard(4, 2, [post, sail, post], []), (1, 0, 1)), [None, 0, 0, 0, None, None, 1, 1])
        self.check_who(who(Yard(4, 2, [post, post], []), (0, 0, 1)), [None, 0] + [None] * 6)

    def test_against_the_shadows_on_the_ground(self):
        for yard, rays in some_yards(37):
            for ray in rays[-3:]:
                wanted = []
                for stone in stones_in(yard):
                    numbers = [k for k, thing in enumerate(yard.things) if is_shaded(thing, stone, ray)]
                    wanted.append(min(numbers, default=None))
                self.check_who(who(yard, ray), wanted)

    def test_none_just_where_it_is_lit(self):
        for yard, rays in some_yards(38):
            for ray in rays:
                self.assertEqual(set_of(number is not None for number in who(yard, ray)), dark(yard, ray))

    def test_what_is_done_to_the_list_changes_nothing_later(self):
        yard = Yard(2, 1, [thing_of("post", [1, 0, 1])], [])
        told = who(yard, (0, 0, 1))
        told[0] = 7
        told.clear()
        self.check_who(who(yard, (0, 0, 1)), [None, 0])
        self.check_set(dark(yard, (0, 0, 1)), 2)


class Alone(Case):
    def check_alone(self, told, wanted):
        self.assertIs(type(told), list)
        self.assertEqual([type(bits) for bits in told], [int] * len(wanted))
        self.assertEqual(told, wanted)

    def test_a_yard_without_things(self):
        self.check_alone(alone(Yard(3, 3, [], []), (1, 0, 1)), [])

    def test_shaded_by_one_by_two_and_by_none(self):
        post, sail = thing_of("post", [1, 0, 1]), thing_of("sail", [2, 0, 4, 2, 1])
        self.check_alone(alone(Yard(4, 1, [post], []), (0, 0, 1)), [2])
        self.check_alone(alone(Yard(4, 1, [post, sail], []), (0, 0, 1)), [0, 4])
        self.check_alone(alone(Yard(4, 1, [sail, post], []), (0, 0, 1)), [4, 0])
        self.check_alone(alone(Yard(4, 1, [post, post], []), (0, 0, 1)), [0, 0])
        far = thing_of("post", [9, 9, 1])
        self.check_alone(alone(Yard(4, 1, [far, post, sail, post], []), (0, 0, 1)), [0, 0, 4, 0])

    def test_shaded_by_three(self):
        post = thing_of("post", [0, 0, 1])
        self.check_alone(alone(Yard(2, 1, [post, post, post], []), (0, 0, 1)), [0, 0, 0])

    def test_against_the_shadows_on_the_ground(self):
        for yard, rays in some_yards(39):
            for ray in rays[-3:]:
                wanted = [0] * len(yard.things)
                for number, stone in enumerate(stones_in(yard)):
                    shading = [k for k, thing in enumerate(yard.things) if is_shaded(thing, stone, ray)]
                    if len(shading) == 1:
                        wanted[shading[0]] += 2 ** number
                self.check_alone(alone(yard, ray), wanted)

    def test_without_it_just_these_are_lit(self):
        for yard, rays in some_yards(40):
            for ray in rays:
                for number, bits in enumerate(alone(yard, ray)):
                    others = yard.things[:number] + yard.things[number + 1:]
                    without = Yard(yard.width, yard.height, others, [])
                    self.assertEqual(dark(yard, ray) - dark(without, ray), bits)

    def test_what_is_done_to_the_list_changes_nothing_later(self):
        yard = Yard(2, 1, [thing_of("post", [1, 0, 1])], [])
        told = alone(yard, (0, 0, 1))
        told[0] = 0
        told.append(5)
        self.check_alone(alone(yard, (0, 0, 1)), [2])
