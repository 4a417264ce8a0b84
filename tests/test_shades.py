import random
import unittest

from reckoning import check_held, is_shaded
from samples import WORDS, changed_about, mirrored, moved, numbers_of, ray_by, thing_by
from shadowpost.shades import shades, shading
from shadowpost.things import thing_of

FAR = 10 ** 9
MOST = 10 ** 6
FIELD = [(p, q) for p in range(-2, 8) for q in range(-2, 8)]


class Case(unittest.TestCase):
    def word_of(self, thing, stone, ray):
        a, b, c = ray
        casts = [(c * x + a * z, c * y + b * z) for x, y, z in thing.corners()]
        shown = thing.shown()
        word = check_held(self, shading(thing, stone, ray), casts, (2 * c * stone[0], 2 * c * stone[1]))
        self.assertIs(shades(thing, stone, ray), word == "in")
        self.assertEqual(thing.shown(), shown)
        return word

    def are_shaded(self, thing, ray, stones):
        for stone in stones:
            self.assertEqual(self.word_of(thing, stone, ray), "in", (thing.shown(), stone, ray))

    def are_clear(self, thing, ray, stones):
        for stone in stones:
            self.assertEqual(self.word_of(thing, stone, ray), "out", (thing.shown(), stone, ray))

    def just_these(self, thing, ray, stones):
        self.are_shaded(thing, ray, stones)
        self.are_clear(thing, ray, [stone for stone in FIELD if stone not in stones])


class Kinds(Case):
    def test_post(self):
        post = thing_of("post", [1, 2, 3])
        self.just_these(post, (0, 0, 1), [(1, 2)])
        self.just_these(post, (1, 0, 1), [(1, 2), (2, 2), (3, 2)])
        self.just_these(post, (0, 1, 1), [(1, 2), (1, 3), (1, 4)])
        self.just_these(post, (-1, 0, 1), [(1, 2), (0, 2), (-1, 2)])
        self.just_these(post, (2, 2, 3), [(1, 2), (2, 3), (1, 3), (2, 2)])

    def test_post_on_the_very_edge_and_one_step_beyond(self):
        # By this ray its shadow reaches to 1 + h steps: the middle of the next stone is the edge where h is 1.
        for h in range(1, 10):
            wanted = [(p, 0) for p in range(8) if 2 * p <= 1 + h]
            self.just_these(thing_of("post", [0, 0, h]), (1, 0, 1), wanted)

    def test_fence(self):
        fence = thing_of("fence", [0, 2, 8, 2, 4])
        self.just_these(fence, (0, 0, 1), [(p, 1) for p in range(5)])
        self.just_these(fence, (0, 1, 1), [(p, q) for p in range(5) for q in (1, 2, 3)])
        self.just_these(fence, (0, -1, 1), [(p, q) for p in range(5) for q in (1, 0, -1)])
        self.just_these(fence, (0, 1, 2), [(p, q) for p in range(5) for q in (1, 2)])
        self.just_these(fence, (1, 0, 1), [(p, 1) for p in range(7)])

    def test_fence_on_the_very_edge_and_one_step_beyond(self):
        self.just_these(thing_of("fence", [0, 3, 4, 3, 2]), (0, 1, 1), [(p, 2) for p in range(3)])
        self.just_these(thing_of("fence", [0, 3, 4, 3, 1]), (0, 1, 1), [(p, 2) for p in range(3)])
        self.just_these(thing_of("fence", [0, 3, 4, 3, 3]), (0, 1, 1), [(p, q) for p in range(3) for q in (2, 3)])
        self.just_these(thing_of("fence", [1, 2, 3, 2, 1]), (0, 0, 1), [(1, 1)])
        self.just_these(thing_of("fence", [1, 3, 3, 3, 1]), (0, 0, 1), [])

    def test_slanted_fence(self):
        self.just_these(thing_of("fence", [0, 0, 6, 6, 2]), (0, 0, 1), [(0, 0), (1, 1), (2, 2), (3, 3)])
        self.just_these(thing_of("fence", [6, 6, 0, 0, 2]), (1, 1, 1), [(0, 0), (1, 1), (2, 2), (3, 3), (4, 4)])

    def test_sail(self):
        sail = thing_of("sail", [0, 0, 4, 2, 4])
        self.just_these(sail, (0, 0, 1), [(p, q) for p in (0, 1, 2) for q in (0, 1)])
        self.just_these(sail, (1, 0, 1), [(p, q) for p in (2, 3, 4) for q in (0, 1)])
        self.just_these(sail, (-1, 1, 1), [(p, q) for p in (-2, -1, 0) for q in (2, 3)])
        self.just_these(sail, (1, 0, 4), [(p, q) for p in (1, 2) for q in (0, 1)])

    def test_sail_on_the_very_edge_and_one_step_beyond(self):
        self.just_these(thing_of("sail", [2, 2, 4, 4, 9]), (0, 0, 1), [(1, 1), (2, 1), (1, 2), (2, 2)])
        self.just_these(thing_of("sail", [3, 2, 4, 4, 9]), (0, 0, 1), [(2, 1), (2, 2)])
        self.just_these(thing_of("sail", [3, 3, 4, 4, 9]), (0, 0, 1), [(2, 2)])
        self.just_these(thing_of("sail", [3, 3, 5, 5, 9]), (0, 0, 1), [(2, 2)])
        self.just_these(thing_of("sail", [2, 2, 3, 3, 9]), (0, 0, 1), [(1, 1)])

    def test_cloth(self):
        cloth = thing_of("cloth", [0, 0, 1, 6, 0, 1, 0, 6, 1])
        half = [(p, q) for p in range(4) for q in range(4) if p + q <= 3]
        self.just_these(cloth, (0, 0, 1), half)
        self.just_these(cloth, (2, 0, 1), [(p + 1, q) for p, q in half])
        self.just_these(cloth, (-2, -2, 1), [(p - 1, q - 1) for p, q in half])
        self.just_these(cloth, (1, 0, 1), [(p, q) for p in range(1, 4) for q in range(3) if p + q <= 3])

    def test_slanting_cloth(self):
        cloth = thing_of("cloth", [0, 0, 0, 4, 0, 0, 0, 0, 2])
        self.just_these(cloth, (0, 0, 1), [(0, 0), (1, 0), (2, 0)])
        self.just_these(cloth, (0, 2, 1), [(0, 0), (1, 0), (2, 0), (0, 1), (1, 1), (0, 2)])

    def test_cloth_that_is_a_point_or_a_line(self):
        self.just_these(thing_of("cloth", [2, 2, 5] * 3), (0, 0, 1), [(1, 1)])
        self.just_these(thing_of("cloth", [2, 2, 5] * 3), (2, 0, 5), [(2, 1)])
        self.just_these(thing_of("cloth", [2, 2, 5] * 3), (1, 0, 5), [])
        self.just_these(thing_of("cloth", [0, 0, 0, 2, 2, 0, 6, 6, 0]), (9, 9, 1), [(k, k) for k in range(4)])

    def test_house(self):
        house = thing_of("house", [0, 0, 4, 2, 4])
        below = [(p, q) for p in (0, 1, 2) for q in (0, 1)]
        self.just_these(house, (0, 0, 1), below)
        self.just_these(house, (1, 0, 1), [(p, q) for p in range(5) for q in (0, 1)])
        self.just_these(house, (0, 1, 1), [(p, q) for p in range(3) for q in range(4)])
        self.just_these(house, (1, 0, 4), below)
        self.just_these(house, (1, 0, 2), below + [(3, 0), (3, 1)])

    def test_house_on_the_very_edge_and_one_step_beyond(self):
        self.just_these(thing_of("house", [2, 2, 4, 4, 1]), (0, 0, 1), [(1, 1), (2, 1), (1, 2), (2, 2)])
        self.just_these(thing_of("house", [3, 3, 5, 5, 1]), (0, 0, 1), [(2, 2)])
        self.just_these(thing_of("house", [3, 3, 5, 5, 1]), (1, 0, 1), [(2, 2), (3, 2)])
        self.just_these(thing_of("house", [3, 3, 5, 5, 1]), (-1, 0, 1), [(2, 2), (1, 2)])

    def test_slanting_edge_of_a_shadow(self):
        # By this ray the post's shadow has edges from (-1, 1) to (7, 5) and from (1, -1) to (9, 3).
        post = thing_of("post", [0, 0, 4])
        self.just_these(post, (2, 1, 1), [(0, 0), (1, 0), (1, 1), (2, 1), (3, 1), (3, 2), (4, 2)])


class Always(Case):
    def test_the_stone_on_which_a_post_stands(self):
        chance = random.Random(3)
        rays = [(0, 0, 1), (0, 0, MOST), (MOST, MOST, 1), (-MOST, MOST, 1), (MOST, -MOST, MOST), (1, -1, MOST)]
        rays += [ray_by(chance) for k in range(20)]
        for stone in [(0, 0), (3, 5), (-7, 2), (FAR, -FAR), (-FAR, FAR)]:
            for h in (1, 2, 7, FAR):
                for ray in rays:
                    self.are_shaded(thing_of("post", [stone[0], stone[1], h]), ray, [stone])

    def test_straight_down(self):
        chance = random.Random(4)
        for word in WORDS:
            thing = thing_by(chance, 5, word)
            wanted = [stone for stone in FIELD if is_shaded(thing, stone, (0, 0, 1))]
            for c in (1, 2, 7, MOST):
                self.just_these(thing, (0, 0, c), wanted)

    def test_against_the_shadows_on_the_ground(self):
        chance = random.Random(5)
        for word in WORDS:
            seen = 0
            for k in range(25):
                thing, ray = thing_by(chance, 5, word), ray_by(chance)
                for stone in FIELD:
                    seen += is_shaded(thing, stone, ray)
                    self.assertIs(shades(thing, stone, ray), is_shaded(thing, stone, ray))
            self.assertGreater(seen, 25)

    def test_numbers_at_the_bounds(self):
        high = thing_of("post", [0, 0, FAR])
        self.are_shaded(high, (MOST, 0, 1), [(FAR, 0), (1, 0)])
        self.are_clear(high, (MOST, 0, 1), [(FAR, 1), (-1, 0), (-FAR, 0), (FAR, -FAR)])
        self.are_shaded(high, (MOST, -MOST, MOST), [(FAR // 2, -FAR // 2)])
        self.are_clear(high, (MOST, -MOST, MOST), [(FAR // 2 + 1, -FAR // 2 - 1), (FAR // 2 + 2, -FAR // 2)])
        over = thing_of("sail", [-FAR, -FAR, FAR, FAR, FAR])
        self.are_shaded(over, (0, 0, 1), [(0, 0), (FAR // 2, -FAR // 2)])
        self.are_shaded(over, (MOST, 0, MOST), [(0, 0), (FAR, 5)])
        self.are_clear(over, (MOST, 0, MOST), [(-1, 0), (FAR, FAR)])
        self.are_clear(over, (MOST, 0, 1), [(0, 0)])


class Alike(Case):
    def some(self, seed):
        chance = random.Random(seed)
        for word in WORDS:
            for k in range(6):
                yield thing_by(chance, 5, word), ray_by(chance)

    def test_a_ray_several_times_as_great(self):
        for thing, (a, b, c) in self.some(6):
            for stone in FIELD[::3]:
                word = self.word_of(thing, stone, (a, b, c))
                for by in (2, 7, 1000):
                    self.assertEqual(self.word_of(thing, stone, (by * a, by * b, by * c)), word)

    def test_moved(self):
        for thing, ray in self.some(7):
            for right, down in [(1, 0), (0, 1), (-3, 2), (1000, -1000)]:
                other = moved(thing, right, down)
                for p, q in FIELD[::3]:
                    self.assertIs(shades(other, (p + right, q + down), ray), shades(thing, (p, q), ray))

    def test_mirrored(self):
        for thing, (a, b, c) in self.some(8):
            for p, q in FIELD[::2]:
                self.assertIs(shades(mirrored(thing), (-p, q), (-a, b, c)), shades(thing, (p, q), (a, b, c)))

    def test_right_and_down_changed_about(self):
        for thing, (a, b, c) in self.some(9):
            for p, q in FIELD[::2]:
                self.assertIs(shades(changed_about(thing), (q, p), (b, a, c)), shades(thing, (p, q), (a, b, c)))

    def test_made_higher_it_shades_what_it_did(self):
        for thing, ray in self.some(10):
            word, numbers = numbers_of(thing)
            if word in ("post", "fence", "house"):
                for more in (1, 2, 50):
                    higher = thing_of(word, numbers[:-1] + [numbers[-1] + more])
                    self.are_shaded(higher, ray, [stone for stone in FIELD if shades(thing, stone, ray)])

    def test_what_is_done_to_what_is_told_changes_nothing_later(self):
        post = thing_of("post", [1, 1, 2])
        told = shading(post, (1, 1), (1, 0, 1))
        kept = list(told[1])
        told[1].clear()
        self.assertEqual(shading(post, (1, 1), (1, 0, 1)), ("in", kept))
