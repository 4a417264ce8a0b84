import itertools
import unittest

from shadowpost.rays import bits_of, cast, is_ray, stone_cast, stones_of

MOST = 10 ** 6


class Case(unittest.TestCase):
    def check_pair(self, pair, right, down):
        self.assertIs(type(pair), tuple)
        self.assertEqual([type(number) for number in pair], [int, int])
        self.assertEqual(pair, (right, down))


class StonesOf(Case):
    def check_stones(self, stones, wanted):
        self.assertIs(type(stones), list)
        for stone in stones:
            self.assertIs(type(stone), tuple)
            self.assertEqual([type(number) for number in stone], [int, int])
        self.assertEqual(stones, wanted)

    def test_no_stones(self):
        for width in range(1, 21):
            self.check_stones(stones_of(0, width), [])

    def test_each_stone_alone_of_each_width(self):
        for width in range(1, 21):
            for q in range(20):
                for p in range(width):
                    self.check_stones(stones_of(2 ** (q * width + p), width), [(p, q)])

    def test_each_number_up_to_399(self):
        for width in (1, 3, 19, 20):
            for number in range(400):
                self.check_stones(stones_of(2 ** number, width), [(number % width, number // width)])

    def test_several_stones_by_rising_numbers(self):
        self.check_stones(stones_of(0b1011, 1), [(0, 0), (0, 1), (0, 3)])
        self.check_stones(stones_of(0b1011, 2), [(0, 0), (1, 0), (1, 1)])
        self.check_stones(stones_of(0b101100, 3), [(2, 0), (0, 1), (2, 1)])
        self.check_stones(stones_of(0b1111, 20), [(0, 0), (1, 0), (2, 0), (3, 0)])

    def test_all_400_stones(self):
        wanted = [(p, q) for q in range(20) for p in range(20)]
        self.check_stones(stones_of(2 ** 400 - 1, 20), wanted)

    def test_what_is_done_to_the_list_changes_nothing_later(self):
        told = stones_of(7, 2)
        told.append((9, 9))
        told[0] = None
        self.check_stones(stones_of(7, 2), [(0, 0), (1, 0), (0, 1)])


class BitsOf(Case):
    def check_bits(self, bits, wanted):
        self.assertIs(type(bits), int)
        self.assertEqual(bits, wanted)

    def test_no_stones(self):
        for width in range(1, 21):
            self.check_bits(bits_of([], width), 0)

    def test_each_stone_alone_of_each_width(self):
        for width in range(1, 21):
            for q in range(20):
                for p in range(width):
                    self.check_bits(bits_of([(p, q)], width), 2 ** (q * width + p))

    def test_several_stones_in_any_order(self):
        for stones in itertools.permutations([(0, 0), (2, 0), (1, 1), (2, 3)]):
            self.check_bits(bits_of(list(stones), 3), 2 ** 0 + 2 ** 2 + 2 ** 4 + 2 ** 11)

    def test_stones_told_twice(self):
        self.check_bits(bits_of([(1, 0), (1, 0)], 3), 2)
        self.check_bits(bits_of([(1, 0), (0, 2), (1, 0), (0, 2), (1, 0)], 3), 2 + 2 ** 6)

    def test_all_400_stones(self):
        stones = [(p, q) for p in range(20) for q in range(20)]
        self.check_bits(bits_of(stones, 20), 2 ** 400 - 1)

    def test_the_list_handed_in_stays(self):
        stones = [(1, 0), (0, 2), (1, 0)]
        bits_of(stones, 3)
        self.assertEqual(stones, [(1, 0), (0, 2), (1, 0)])

    def test_the_set_of_the_stones_of_a_set_is_the_set_again(self):
        for width in range(1, 21):
            most = 20 * width
            for bits in [0, 1, 2 ** (most - 1), 2 ** most - 1, 3 ** 250 % 2 ** most, 7 ** 140 % 2 ** most]:
                self.check_bits(bits_of(stones_of(bits, width), width), bits)
        for bits in range(300):
            self.check_bits(bits_of(stones_of(bits, 3), 3), bits)

    def test_the_stones_of_the_set_of_stones_are_these_by_rising_numbers(self):
        self.assertEqual(stones_of(bits_of([(2, 1), (0, 1), (1, 0), (0, 1)], 3), 3), [(1, 0), (0, 1), (2, 1)])


class IsRay(Case):
    def check_ray(self, ray, wanted):
        self.assertIs(is_ray(ray), wanted, ray)

    def test_ordinary_rays(self):
        for ray in [(0, 0, 1), (1, 2, 3), (-1, 2, 3), (1, -2, 3), (-7, -9, 500), (5, 0, 1), (0, -5, 1)]:
            self.check_ray(ray, True)

    def test_bounds_of_a(self):
        for a, wanted in [(MOST, True), (MOST - 1, True), (MOST + 1, False), (10 ** 9, False), (10 ** 30, False)]:
            for b in (0, MOST, -MOST):
                self.check_ray((a, b, 1), wanted)
                self.check_ray((-a, b, 1), wanted)

    def test_bounds_of_b(self):
        for b, wanted in [(MOST, True), (MOST - 1, True), (MOST + 1, False), (10 ** 9, False), (10 ** 30, False)]:
            for a in (0, MOST, -MOST):
                self.check_ray((a, b, 1), wanted)
                self.check_ray((a, -b, 1), wanted)

    def test_bounds_of_c(self):
        for c, wanted in [
            (1, True), (2, True), (MOST - 1, True), (MOST, True), (MOST + 1, False), (10 ** 30, False),
            (0, False), (-1, False), (-MOST, False), (-MOST - 1, False), (-10 ** 30, False),
        ]:
            for slope in (0, 1, -1, MOST, -MOST):
                self.check_ray((slope, slope, c), wanted)

    def test_all_of_them_beyond(self):
        self.check_ray((MOST + 1, MOST + 1, MOST + 1), False)
        self.check_ray((-MOST - 1, -MOST - 1, 0), False)


class Cast(Case):
    def test_ordinary_points(self):
        self.check_pair(cast((0, 0, 0), (1, 2, 3)), 0, 0)
        self.check_pair(cast((5, 7, 0), (1, 2, 3)), 15, 21)
        self.check_pair(cast((5, 7, 4), (1, 2, 3)), 19, 29)
        self.check_pair(cast((5, 7, 4), (0, 0, 1)), 5, 7)
        self.check_pair(cast((5, 7, 4), (10, 100, 1)), 45, 407)

    def test_numbers_below_0(self):
        self.check_pair(cast((5, 7, 4), (-1, 2, 3)), 11, 29)
        self.check_pair(cast((5, 7, 4), (1, -2, 3)), 19, 13)
        self.check_pair(cast((-5, -7, 4), (-1, -2, 3)), -19, -29)
        self.check_pair(cast((-5, 7, 0), (9, 9, 2)), -10, 14)

    def test_all_small_numbers(self):
        numbers = (-3, -1, 0, 2)
        for x, y, a, b in itertools.product(numbers, repeat=4):
            for z in (0, 1, 5):
                for c in (1, 4):
                    self.check_pair(cast((x, y, z), (a, b, c)), c * x + a * z, c * y + b * z)

    def test_numbers_at_the_bounds(self):
        far = 10 ** 9
        self.check_pair(cast((far, -far, far), (MOST, -MOST, MOST)), 2 * 10 ** 15, -2 * 10 ** 15)
        self.check_pair(cast((far, far, far), (-MOST, -MOST, MOST)), 0, 0)
        self.check_pair(cast((-far, far, far), (MOST, 0, 1)), 10 ** 15 - far, far)


class StoneCast(Case):
    def test_ordinary_stones(self):
        self.check_pair(stone_cast((0, 0), (1, 2, 3)), 0, 0)
        self.check_pair(stone_cast((1, 0), (1, 2, 3)), 6, 0)
        self.check_pair(stone_cast((0, 1), (1, 2, 3)), 0, 6)
        self.check_pair(stone_cast((4, 7), (1, 2, 3)), 24, 42)

    def test_the_slopes_change_nothing(self):
        for a, b in [(0, 0), (5, 0), (0, -5), (-MOST, MOST)]:
            self.check_pair(stone_cast((4, 7), (a, b, 5)), 40, 70)

    def test_stones_far_from_the_yard(self):
        far = 10 ** 9
        self.check_pair(stone_cast((-1, -3), (1, 2, 3)), -6, -18)
        self.check_pair(stone_cast((far, -far), (1, 2, 1)), 2 * far, -2 * far)
        self.check_pair(stone_cast((-far, far), (-MOST, MOST, MOST)), -2 * 10 ** 15, 2 * 10 ** 15)

    def test_it_is_the_cast_of_the_middle(self):
        for p in range(-3, 23):
            for q in range(-3, 23):
                for ray in [(0, 0, 1), (3, -2, 5), (-MOST, MOST, MOST)]:
                    self.assertEqual(stone_cast((p, q), ray), cast((2 * p, 2 * q, 0), ray))
