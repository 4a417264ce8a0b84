import itertools
import random
import unittest

from reckoning import check_held
from shadowpost.hulls import held

FAR = 10 ** 16
SQUARE = [(0, 0), (4, 0), (4, 4), (0, 4)]


class Case(unittest.TestCase):
    def word_of(self, points, point):
        given, pair = list(points), tuple(point)
        told = held(given, pair)
        self.assertEqual(given, points)
        word = check_held(self, told, points, point)
        self.assertEqual(held(points[::-1], point)[0], word)
        return word

    def are_in(self, points, some):
        for point in some:
            self.assertEqual(self.word_of(points, point), "in", (points, point))

    def are_out(self, points, some):
        for point in some:
            self.assertEqual(self.word_of(points, point), "out", (points, point))


def around(point, by=1):
    return [(point[0] + right, point[1] + down) for right in (-by, 0, by) for down in (-by, 0, by) if right or down]


class FewPoints(Case):
    def test_one_point(self):
        for point in [(0, 0), (3, -7), (FAR, -FAR)]:
            self.are_in([point], [point])
            self.are_out([point], around(point) + around(point, 1000) + around(point, FAR))

    def test_one_point_told_several_times(self):
        for many in range(2, 9):
            self.are_in([(3, -7)] * many, [(3, -7)])
            self.are_out([(3, -7)] * many, around((3, -7)) + around((3, -7), 10 ** 15))

    def test_two_points(self):
        for one, other in [((0, 0), (6, 4)), ((0, 0), (6, 0)), ((0, 0), (0, 4)), ((-3, 2), (3, -2))]:
            middle = ((one[0] + other[0]) // 2, (one[1] + other[1]) // 2)
            right, down = other[0] - one[0], other[1] - one[1]
            for points in ([one, other], [other, one], [one, other, one], [other, one, one, other, one]):
                self.are_in(points, [one, other, middle])
                self.are_out(points, [(other[0] + right, other[1] + down), (one[0] - right, one[1] - down)])
                self.are_out(points, [(middle[0] - down, middle[1] + right), (middle[0] + down, middle[1] - right)])
                self.are_out(points, [(one[0] - down, one[1] + right), (other[0] + down, other[1] - right)])

    def test_all_pairs_about_two_points(self):
        for one, other in itertools.product([(0, 0), (2, 1), (4, 2), (-2, 0)], repeat=2):
            for point in itertools.product(range(-4, 7), range(-2, 5)):
                self.word_of([one, other], point)

    def test_points_on_one_line(self):
        for right, down in [(1, 0), (0, 1), (1, 1), (2, -3), (-5, 7)]:
            points = [(2 * k * right, 2 * k * down) for k in (3, 0, 5, 1, 3, 8)]
            self.are_in(points, [(k * right, k * down) for k in range(17)])
            self.are_out(points, [(k * right, k * down) for k in (-100, -2, -1, 17, 18, 100)])
            self.are_out(points, [(k * right - down, k * down + right) for k in range(-3, 20)])
            self.are_out(points, [(k * right + down, k * down - right) for k in range(-3, 20)])


class MorePoints(Case):
    def test_a_square(self):
        self.are_in(SQUARE, itertools.product(range(5), repeat=2))
        for point in itertools.product(range(-2, 7), repeat=2):
            if not (0 <= point[0] <= 4 and 0 <= point[1] <= 4):
                self.are_out(SQUARE, [point])

    def test_the_points_in_any_order(self):
        for points in itertools.permutations(SQUARE):
            self.are_in(list(points), [(0, 0), (2, 0), (1, 3), (4, 2)])
            self.are_out(list(points), [(5, 0), (-1, 2), (2, 5), (5, 5)])

    def test_the_same_point_among_them_several_times(self):
        for many in range(1, 5):
            points = [(0, 0)] * many + SQUARE
            self.are_in(points[:8], [(0, 0), (4, 4), (2, 2), (0, 1), (4, 3)])
            self.are_out(points[:8], [(-1, 0), (5, 4), (2, -1), (2, 5)])

    def test_all_triangles_on_a_small_field(self):
        field = list(itertools.product(range(3), repeat=2))
        about = list(itertools.product(range(-1, 4), repeat=2))
        for points in itertools.combinations_with_replacement(field, 3):
            for point in about:
                self.word_of(list(points), point)

    def test_points_amid_the_others(self):
        points = [(2, 2), (1, 3), (0, 0), (4, 0), (2, 1), (4, 4), (0, 4), (3, 3)]
        self.are_in(points, itertools.product(range(5), repeat=2))
        self.are_out(points, [(-1, 2), (5, 2), (2, -1), (2, 5), (5, 5), (-1, -1)])

    def test_eight_corners(self):
        points = [(2, 0), (5, 0), (7, 2), (7, 5), (5, 7), (2, 7), (0, 5), (0, 2)]
        for point in itertools.product(range(-1, 9), repeat=2):
            cut = [point[0] + point[1], 14 - point[0] - point[1], 7 + point[0] - point[1], 7 - point[0] + point[1]]
            inside = min(cut) >= 2 and min(point) >= 0 and max(point) <= 7
            self.assertEqual(self.word_of(points, point), "in" if inside else "out")

    def test_an_edge_that_is_just_missed(self):
        points = [(0, 0), (1000, 1), (0, 1000)]
        self.are_in(points, [(1000, 1), (999, 1), (0, 500)])
        self.are_out(points, [(999, 0), (1, 0), (1000, 0), (1000, 2), (-1, 500), (500, 501)])

    def test_beyond_two_points_on_their_line(self):
        points = [(0, 0), (4, 2), (0, 8)]
        self.are_in(points, [(2, 1), (4, 2), (0, 0), (0, 4)])
        self.are_out(points, [(6, 3), (-2, -1), (0, 9), (0, -1), (400, 200)])

    def test_every_count_of_points_by_chance(self):
        chance = random.Random(12)
        for many in range(1, 9):
            seen = set()
            for most in (1, 2, 4, 9, 1000) * 12:
                points = [(chance.randint(-most, most), chance.randint(-most, most)) for k in range(many)]
                one, other = chance.choice(points), chance.choice(points)
                near = ((one[0] + other[0]) // 2, (one[1] + other[1]) // 2)
                for point in around(near) + [near, one, (2 * other[0] - one[0], 2 * other[1] - one[1])]:
                    seen.add(self.word_of(points, point))
            self.assertEqual(seen, {"in", "out"})


class FarPoints(Case):
    def test_a_square_at_the_bounds(self):
        points = [(-FAR, -FAR), (FAR, -FAR), (FAR, FAR), (-FAR, FAR)]
        self.are_in(points, points + [(0, 0), (FAR, 0), (7, -FAR), (FAR - 1, 1 - FAR)])
        self.are_out(points, [(FAR + 1, 0), (0, -FAR - 1), (FAR + 1, FAR), (3 * FAR, 3 * FAR)])

    def test_a_slope_at_the_bounds(self):
        points = [(-FAR, -FAR), (FAR, FAR), (FAR, FAR - 1)]
        self.are_in(points, [(5, 5), (-FAR, -FAR), (FAR - 1, FAR - 1)])
        self.are_out(points, [(5, 6), (5, 4), (FAR - 1, FAR - 2), (FAR + 1, FAR + 1), (-FAR - 1, -FAR - 1)])

    def test_a_line_at_the_bounds(self):
        points = [(-FAR, FAR), (FAR, -FAR)]
        self.are_in(points, [(0, 0), (FAR - 1, 1 - FAR), (-1, 1)])
        self.are_out(points, [(0, 1), (0, -1), (FAR + 1, -FAR - 1), (FAR, 1 - FAR)])

    def test_far_points_by_chance(self):
        chance = random.Random(21)
        for many in range(3, 9):
            for turn in range(10):
                points = [(chance.randint(-FAR, FAR), chance.randint(-FAR, FAR)) for k in range(many)]
                point = (chance.randint(-FAR, FAR), chance.randint(-FAR, FAR))
                middle = (sum(x for x, y in points) // many, sum(y for x, y in points) // many)
                self.word_of(points, point)
                self.assertEqual(self.word_of(points, middle), "in")
                self.assertEqual(self.word_of(points, (FAR + 1, middle[1])), "out")


class Own(Case):
    def test_what_is_done_to_what_is_told_changes_nothing_later(self):
        points = list(SQUARE)
        told = held(points, (1, 1))
        told[1][0] = None
        told[1].append(7)
        self.assertEqual(points, SQUARE)
        self.are_in(SQUARE, [(1, 1)])
        self.assertEqual(held(SQUARE, (1, 1)), held(SQUARE, (1, 1)))

    def test_a_later_change_of_the_points_changes_nothing_told(self):
        points = list(SQUARE)
        inside, outside = held(points, (1, 1)), held(points, (9, 9))
        points.clear()
        check_held(self, inside, SQUARE, (1, 1))
        check_held(self, outside, SQUARE, (9, 9))
