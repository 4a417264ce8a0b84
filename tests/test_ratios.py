import unittest
from fractions import Fraction

from shadowpost.errors import NoNumber
from shadowpost.ratios import plus, ratio, times

# Two numbers of 200 figures that follow one another, so nothing above 1 divides both.
HUGE = 10 ** 200 - 1
NEXT = 10 ** 200 - 2

SOME = [Fraction(top, bottom) for top in range(-7, 8) for bottom in range(1, 8)]


def told(fraction):
    return (fraction.numerator, fraction.denominator)


class Case(unittest.TestCase):
    def check(self, fraction, top, bottom):
        self.assertIs(type(fraction), tuple)
        self.assertEqual([type(number) for number in fraction], [int, int])
        self.assertEqual(fraction, (top, bottom))


class Ratio(Case):
    def test_ordinary_numbers(self):
        self.check(ratio(3, 4), 3, 4)
        self.check(ratio(7, 1), 7, 1)
        self.check(ratio(1, 7), 1, 7)
        self.check(ratio(1, 1), 1, 1)

    def test_shared_divisors(self):
        self.check(ratio(6, 4), 3, 2)
        self.check(ratio(4, 6), 2, 3)
        self.check(ratio(12, 12), 1, 1)
        self.check(ratio(100, 10), 10, 1)
        self.check(ratio(10, 100), 1, 10)
        self.check(ratio(2 ** 40 * 9, 2 ** 38 * 15), 12, 5)

    def test_signs(self):
        self.check(ratio(-6, 4), -3, 2)
        self.check(ratio(6, -4), -3, 2)
        self.check(ratio(-6, -4), 3, 2)
        self.check(ratio(-1, 3), -1, 3)
        self.check(ratio(1, -3), -1, 3)
        self.check(ratio(-1, -3), 1, 3)
        self.check(ratio(5, -1), -5, 1)

    def test_both_signs_turned_give_the_same(self):
        for top in range(-9, 10):
            for bottom in range(1, 10):
                self.assertEqual(ratio(top, bottom), ratio(-top, -bottom))
                self.assertEqual(ratio(-top, bottom), ratio(top, -bottom))

    def test_nought(self):
        for bottom in (1, 2, 9, -1, -2, -9, HUGE, -HUGE):
            self.check(ratio(0, bottom), 0, 1)

    def test_all_small_numbers(self):
        for top in range(-30, 31):
            for bottom in list(range(-30, 0)) + list(range(1, 31)):
                self.check(ratio(top, bottom), *told(Fraction(top, bottom)))

    def test_numbers_of_200_figures(self):
        self.assertEqual(len(str(HUGE)), 200)
        self.check(ratio(HUGE, NEXT), HUGE, NEXT)
        self.check(ratio(HUGE, -NEXT), -HUGE, NEXT)
        self.check(ratio(-HUGE, -NEXT), HUGE, NEXT)
        self.check(ratio(HUGE, HUGE), 1, 1)
        self.check(ratio(HUGE, -HUGE), -1, 1)
        self.check(ratio(HUGE, 9), HUGE // 9, 1)
        self.check(ratio(9, -HUGE), -1, HUGE // 9)
        self.check(ratio(6 * 10 ** 199, 4 * 10 ** 199), 3, 2)

    def test_bottom_0_is_refused(self):
        for top in (1, -1, 7, 0, HUGE, -HUGE):
            with self.assertRaises(NoNumber) as taken:
                ratio(top, 0)
            self.assertIs(type(taken.exception), NoNumber)


class Plus(Case):
    def test_ordinary_sums(self):
        self.check(plus((1, 2), (1, 3)), 5, 6)
        self.check(plus((3, 1), (4, 1)), 7, 1)
        self.check(plus((-1, 2), (1, 3)), -1, 6)

    def test_sums_that_can_be_made_lower(self):
        self.check(plus((1, 6), (1, 3)), 1, 2)
        self.check(plus((1, 2), (1, 2)), 1, 1)
        self.check(plus((5, 6), (7, 6)), 2, 1)
        self.check(plus((-1, 6), (-1, 3)), -1, 2)

    def test_sums_that_come_to_nought(self):
        self.check(plus((1, 2), (-1, 2)), 0, 1)
        self.check(plus((-7, 3), (7, 3)), 0, 1)
        self.check(plus((0, 1), (0, 1)), 0, 1)

    def test_nought_changes_nothing(self):
        self.check(plus((2, 3), (0, 1)), 2, 3)
        self.check(plus((0, 1), (2, 3)), 2, 3)

    def test_all_small_fractions_each_way_about(self):
        for one in SOME:
            for other in SOME:
                self.check(plus(told(one), told(other)), *told(one + other))

    def test_numbers_of_200_figures(self):
        one, other = Fraction(HUGE, NEXT), Fraction(-NEXT, HUGE)
        self.check(plus(told(one), told(other)), *told(one + other))
        self.check(plus(told(other), told(one)), *told(one + other))
        self.check(plus((HUGE, NEXT), (-HUGE, NEXT)), 0, 1)


class Times(Case):
    def test_ordinary_products(self):
        self.check(times((1, 2), (1, 3)), 1, 6)
        self.check(times((-2, 3), (5, 7)), -10, 21)
        self.check(times((-2, 3), (-5, 7)), 10, 21)

    def test_products_that_can_be_made_lower(self):
        self.check(times((2, 3), (3, 4)), 1, 2)
        self.check(times((2, 3), (3, 2)), 1, 1)
        self.check(times((-4, 1), (1, 2)), -2, 1)

    def test_products_that_come_to_nought(self):
        self.check(times((0, 1), (5, 7)), 0, 1)
        self.check(times((-5, 7), (0, 1)), 0, 1)
        self.check(times((0, 1), (0, 1)), 0, 1)

    def test_all_small_fractions_each_way_about(self):
        for one in SOME:
            for other in SOME:
                self.check(times(told(one), told(other)), *told(one * other))

    def test_numbers_of_200_figures(self):
        self.check(times((HUGE, NEXT), (NEXT, HUGE)), 1, 1)
        self.check(times((-HUGE, NEXT), (HUGE, NEXT)), -HUGE ** 2, NEXT ** 2)


class Own(Case):
    def test_what_is_told_is_a_new_tuple(self):
        half, nought, whole = (1, 2), (0, 1), (1, 1)
        self.assertIsNot(ratio(1, 2), ratio(1, 2))
        self.assertIsNot(ratio(0, 5), ratio(0, 5))
        self.assertIsNot(plus(half, nought), half)
        self.assertIsNot(plus(nought, half), half)
        self.assertIsNot(times(half, whole), half)
        self.assertIsNot(times(half, nought), nought)

    def test_what_was_handed_in_stays_as_it_was(self):
        one, other = (1, 6), (-1, 3)
        plus(one, other)
        times(one, other)
        self.check(one, 1, 6)
        self.check(other, -1, 3)

    def test_asked_again_the_same_is_told(self):
        self.assertEqual(plus((1, 6), (1, 3)), plus((1, 6), (1, 3)))
        self.assertEqual(ratio(6, -4), ratio(6, -4))
