import itertools
import unittest

from shadowpost.errors import BadThing
from shadowpost.things import Cloth, Fence, House, Post, Sail, Thing, thing_of

FAR = 10 ** 9

KINDS = {"post": Post, "fence": Fence, "sail": Sail, "cloth": Cloth, "house": House}

ORDINARY = {
    "post": [3, 4, 7],
    "fence": [1, 2, 3, 5, 7],
    "sail": [1, 2, 3, 5, 7],
    "cloth": [1, 2, 3, 4, 5, 6, 7, 8, 9],
    "house": [1, 2, 3, 5, 7],
}

# For each number of each kind: its least and its most, the others being those of ORDINARY.
BOUNDS = {
    "post": [(-FAR, FAR), (-FAR, FAR), (1, FAR)],
    "fence": [(-FAR, FAR), (-FAR, FAR), (-FAR, FAR), (-FAR, FAR), (1, FAR)],
    "sail": [(-FAR, 2), (-FAR, 4), (2, FAR), (3, FAR), (1, FAR)],
    "cloth": [(-FAR, FAR), (-FAR, FAR), (0, FAR)] * 3,
    "house": [(-FAR, 2), (-FAR, 4), (2, FAR), (3, FAR), (1, FAR)],
}


class Case(unittest.TestCase):
    def check_corners(self, word, numbers, wanted):
        corners = thing_of(word, numbers).corners()
        self.assertIs(type(corners), list)
        for corner in corners:
            self.assertIs(type(corner), tuple)
            self.assertEqual([type(number) for number in corner], [int, int, int])
        self.assertEqual(corners, wanted)

    def made(self, word, numbers):
        thing = thing_of(word, numbers)
        self.assertIs(type(thing), KINDS[word])
        self.assertEqual(thing.shown(), " ".join([word] + [str(number) for number in numbers]))
        return thing

    def refused(self, word, numbers):
        with self.assertRaises(BadThing, msg=(word, numbers)) as taken:
            thing_of(word, numbers)
        self.assertIs(type(taken.exception), BadThing)


class Classes(Case):
    def test_each_stands_under_thing_and_under_no_other(self):
        for one in KINDS.values():
            self.assertTrue(issubclass(one, Thing))
            self.assertIsNot(one, Thing)
            for other in KINDS.values():
                self.assertEqual(issubclass(one, other), one is other)

    def test_each_word_makes_its_own_class(self):
        for word, numbers in ORDINARY.items():
            self.assertIs(type(thing_of(word, numbers)), KINDS[word])


class Corners(Case):
    def test_post(self):
        self.check_corners("post", [3, 4, 7], [
            (5, 7, 0), (7, 7, 0), (7, 9, 0), (5, 9, 0), (5, 7, 7), (7, 7, 7), (7, 9, 7), (5, 9, 7),
        ])
        self.check_corners("post", [0, 0, 1], [
            (-1, -1, 0), (1, -1, 0), (1, 1, 0), (-1, 1, 0), (-1, -1, 1), (1, -1, 1), (1, 1, 1), (-1, 1, 1),
        ])
        self.check_corners("post", [-2, 5, 3], [
            (-5, 9, 0), (-3, 9, 0), (-3, 11, 0), (-5, 11, 0), (-5, 9, 3), (-3, 9, 3), (-3, 11, 3), (-5, 11, 3),
        ])

    def test_post_at_the_bounds(self):
        left, right = -2 * FAR - 1, -2 * FAR + 1
        up, low = 2 * FAR - 1, 2 * FAR + 1
        self.check_corners("post", [-FAR, FAR, FAR], [
            (left, up, 0), (right, up, 0), (right, low, 0), (left, low, 0),
            (left, up, FAR), (right, up, FAR), (right, low, FAR), (left, low, FAR),
        ])

    def test_fence(self):
        self.check_corners("fence", [1, 2, 3, 5, 7], [(1, 2, 0), (3, 5, 0), (3, 5, 7), (1, 2, 7)])
        self.check_corners("fence", [3, 5, 1, 2, 7], [(3, 5, 0), (1, 2, 0), (1, 2, 7), (3, 5, 7)])
        self.check_corners("fence", [-4, 2, -4, -9, 1], [(-4, 2, 0), (-4, -9, 0), (-4, -9, 1), (-4, 2, 1)])

    def test_sail(self):
        self.check_corners("sail", [1, 2, 3, 5, 7], [(1, 2, 7), (3, 2, 7), (3, 5, 7), (1, 5, 7)])
        self.check_corners("sail", [-9, -8, -2, 0, 1], [(-9, -8, 1), (-2, -8, 1), (-2, 0, 1), (-9, 0, 1)])

    def test_cloth(self):
        self.check_corners("cloth", [1, 2, 3, 4, 5, 6, 7, 8, 9], [(1, 2, 3), (4, 5, 6), (7, 8, 9)])
        self.check_corners("cloth", [7, 8, 9, -4, -5, 0, 1, 2, 3], [(7, 8, 9), (-4, -5, 0), (1, 2, 3)])
        self.check_corners("cloth", [1, 1, 1, 1, 1, 1, 1, 1, 1], [(1, 1, 1), (1, 1, 1), (1, 1, 1)])

    def test_house(self):
        self.check_corners("house", [1, 2, 3, 5, 7], [
            (1, 2, 0), (3, 2, 0), (3, 5, 0), (1, 5, 0), (1, 2, 7), (3, 2, 7), (3, 5, 7), (1, 5, 7),
        ])
        self.check_corners("house", [-FAR, -FAR, FAR, FAR, FAR], [
            (-FAR, -FAR, 0), (FAR, -FAR, 0), (FAR, FAR, 0), (-FAR, FAR, 0),
            (-FAR, -FAR, FAR), (FAR, -FAR, FAR), (FAR, FAR, FAR), (-FAR, FAR, FAR),
        ])

    def test_what_is_done_to_the_list_changes_nothing_later(self):
        for word, numbers in ORDINARY.items():
            thing = thing_of(word, numbers)
            first = thing.corners()
            wanted = list(first)
            first[0] = None
            first.pop()
            self.assertEqual(thing.corners(), wanted)
            self.assertIsNot(thing.corners(), thing.corners())
            self.assertEqual(thing_of(word, numbers).corners(), wanted)


class Bounds(Case):
    def test_each_number_at_its_bounds(self):
        for word, bounds in BOUNDS.items():
            for place, (least, most) in enumerate(bounds):
                for number in (least, most):
                    numbers = list(ORDINARY[word])
                    numbers[place] = number
                    self.made(word, numbers)

    def test_each_number_beyond_its_bounds(self):
        for word, bounds in BOUNDS.items():
            for place, (least, most) in enumerate(bounds):
                for number in (least - 1, most + 1, least - 10 ** 30, most + 10 ** 30):
                    numbers = list(ORDINARY[word])
                    numbers[place] = number
                    self.refused(word, numbers)

    def test_all_numbers_at_their_bounds(self):
        for z, y, x in itertools.product((0, FAR), (-FAR, FAR), (-FAR, FAR)):
            self.made("cloth", [x, y, z] * 3)
            if z > 0:
                self.made("post", [x, y, z])
        self.made("sail", [-FAR, -FAR, FAR, FAR, FAR])
        self.made("house", [-FAR, -FAR, FAR, FAR, 1])
        self.made("fence", [-FAR, FAR, FAR, -FAR, FAR])

    def test_heights_of_nought_and_below(self):
        for h in (0, -1, -FAR):
            self.refused("post", [0, 0, h])
            for word in ("fence", "sail", "house"):
                self.refused(word, [0, 0, 2, 2, h])

    def test_cloth_corners_on_the_ground_and_below_it(self):
        self.made("cloth", [0, 0, 0, 1, 0, 0, 0, 1, 0])
        for place in (2, 5, 8):
            numbers = [0] * 9
            numbers[place] = -1
            self.refused("cloth", numbers)

    def test_ends_of_a_fence(self):
        self.made("fence", [4, 2, 4, 3, 1])
        self.made("fence", [4, 2, 5, 2, 1])
        self.made("fence", [4, 2, 2, 4, 1])
        self.made("fence", [5, 3, 4, 2, 1])
        self.refused("fence", [4, 2, 4, 2, 1])
        self.refused("fence", [0, 0, 0, 0, 1])
        self.refused("fence", [FAR, -FAR, FAR, -FAR, FAR])

    def test_ends_of_a_sail_and_a_house(self):
        for word in ("sail", "house"):
            for x, y, u, v in itertools.product(range(-2, 2), repeat=4):
                if x < u and y < v:
                    self.made(word, [x, y, u, v, 1])
                else:
                    self.refused(word, [x, y, u, v, 1])


class Refusals(Case):
    def test_each_count_of_numbers(self):
        for word, numbers in ORDINARY.items():
            for count in range(13):
                given = (numbers + [10, 11, 12, 13, 14, 15, 16, 17, 18])[:count]
                if count == len(numbers):
                    self.made(word, given)
                else:
                    self.refused(word, given)

    def test_no_numbers(self):
        for word in ORDINARY:
            self.refused(word, [])

    def test_other_words(self):
        others = ["", " ", "Post", "POST", "posts", "pos", "post ", " post", "post\n", "tree", "thing", "Thing", "yard"]
        others += [word + " " for word in ORDINARY] + [word.capitalize() for word in ORDINARY]
        for word in others:
            for numbers in list(ORDINARY.values()) + [[]]:
                self.refused(word, numbers)

    def test_numbers_of_another_kind(self):
        for word, other in itertools.permutations(ORDINARY, 2):
            if len(ORDINARY[word]) != len(ORDINARY[other]):
                self.refused(word, ORDINARY[other])

    def test_a_refusal_changes_nothing(self):
        numbers = [0, 0, 0]
        self.refused("post", numbers)
        self.assertEqual(numbers, [0, 0, 0])
        self.made("post", [0, 0, 1])


class Shown(Case):
    def test_ordinary_things(self):
        self.assertEqual(thing_of("post", [3, 4, 7]).shown(), "post 3 4 7")
        self.assertEqual(thing_of("fence", [-1, 2, 3, 5, 7]).shown(), "fence -1 2 3 5 7")
        self.assertEqual(thing_of("sail", [1, -2, 3, 5, 7]).shown(), "sail 1 -2 3 5 7")
        self.assertEqual(thing_of("cloth", [1, 2, 3, 4, 5, 6, 7, 8, 0]).shown(), "cloth 1 2 3 4 5 6 7 8 0")
        self.assertEqual(thing_of("house", [0, 0, FAR, 5, FAR]).shown(), "house 0 0 1000000000 5 1000000000")

    def test_it_is_a_text(self):
        for word, numbers in ORDINARY.items():
            self.assertIs(type(thing_of(word, numbers).shown()), str)


class Own(Case):
    def test_the_list_handed_in_stays(self):
        for word, numbers in ORDINARY.items():
            given = list(numbers)
            thing = thing_of(word, given)
            thing.corners()
            thing.shown()
            self.assertEqual(given, numbers)

    def test_a_later_change_of_the_list_changes_nothing(self):
        for word, numbers in ORDINARY.items():
            given = list(numbers)
            thing = thing_of(word, given)
            corners, shown = thing.corners(), thing.shown()
            given[0] = 77
            given.pop()
            given.append(99)
            self.assertEqual(thing.corners(), corners)
            self.assertEqual(thing.shown(), shown)
            self.assertEqual(shown, " ".join([word] + [str(number) for number in numbers]))

    def test_two_of_one_kind_are_apart(self):
        one, other = thing_of("post", [1, 2, 3]), thing_of("post", [4, 5, 6])
        self.assertEqual(one.shown(), "post 1 2 3")
        self.assertEqual(other.shown(), "post 4 5 6")
        self.assertEqual(one.corners()[0], (1, 3, 0))
        self.assertEqual(other.corners()[0], (7, 9, 0))
