import math
import unittest
from fractions import Fraction

from cogtrain.ratios import lowest, times

# Some hundred digits each; no two of them have a common divisor but 1.
GREAT_TWO = 2 ** 1200
GREAT_THREE = 3 ** 800
GREAT_FIVE = 5 ** 500


def fibonacci_pair(count):
    low, high = 0, 1
    for _ in range(count):
        low, high = high, low + high
    return low, high


class FractionCase(unittest.TestCase):
    def assert_fraction(self, answer):
        self.assertIs(type(answer), tuple)
        self.assertEqual(len(answer), 2)
        top, bottom = answer
        self.assertIs(type(top), int)
        self.assertIs(type(bottom), int)
        self.assertGreaterEqual(bottom, 1)
        self.assertEqual(math.gcd(top, bottom), 1)

    def assert_lowest(self, top, bottom, wanted):
        answer = lowest(top, bottom)
        self.assert_fraction(answer)
        self.assertEqual(top * answer[1], bottom * answer[0])
        self.assertEqual(answer, wanted)

    def assert_times(self, one, other, wanted):
        for answer in (times(one, other), times(other, one)):
            self.assert_fraction(answer)
            self.assertEqual(answer, wanted)


class Lowest(FractionCase):
    def test_ordinary(self):
        self.assert_lowest(6, 4, (3, 2))
        self.assert_lowest(4, 6, (2, 3))
        self.assert_lowest(12, 30, (2, 5))
        self.assert_lowest(100, 75, (4, 3))

    def test_top_of_nought(self):
        for bottom in (1, -1, 2, 7, -7, 10 ** 9, GREAT_TWO, -GREAT_TWO):
            with self.subTest(bottom=bottom):
                self.assert_lowest(0, bottom, (0, 1))

    def test_below_nought(self):
        self.assert_lowest(-6, 4, (-3, 2))
        self.assert_lowest(6, -4, (-3, 2))
        self.assert_lowest(-6, -4, (3, 2))
        self.assert_lowest(-4, 6, (-2, 3))
        self.assert_lowest(4, -6, (-2, 3))
        self.assert_lowest(-4, -6, (2, 3))

    def test_bottom_divides_top(self):
        self.assert_lowest(12, 4, (3, 1))
        self.assert_lowest(-12, 4, (-3, 1))
        self.assert_lowest(12, -4, (-3, 1))
        self.assert_lowest(-12, -4, (3, 1))

    def test_top_divides_bottom(self):
        self.assert_lowest(4, 12, (1, 3))
        self.assert_lowest(-4, 12, (-1, 3))
        self.assert_lowest(4, -12, (-1, 3))
        self.assert_lowest(-4, -12, (1, 3))

    def test_no_common_divisor(self):
        self.assert_lowest(7, 9, (7, 9))
        self.assert_lowest(9, 7, (9, 7))
        self.assert_lowest(-7, 9, (-7, 9))
        self.assert_lowest(7, -9, (-7, 9))
        self.assert_lowest(-7, -9, (7, 9))

    def test_equal_ones(self):
        for number in (1, 2, 9, 10 ** 9 - 1, GREAT_THREE):
            with self.subTest(number=number):
                self.assert_lowest(number, number, (1, 1))
                self.assert_lowest(-number, -number, (1, 1))
                self.assert_lowest(-number, number, (-1, 1))
                self.assert_lowest(number, -number, (-1, 1))

    def test_bottom_of_one_and_of_minus_one(self):
        for top in (-GREAT_TWO, -5, -1, 1, 5, GREAT_TWO):
            with self.subTest(top=top):
                self.assert_lowest(top, 1, (top, 1))
                self.assert_lowest(top, -1, (-top, 1))

    def test_great_common_divisor(self):
        top = GREAT_TWO * GREAT_THREE
        bottom = GREAT_FIVE * GREAT_THREE
        self.assert_lowest(top, bottom, (GREAT_TWO, GREAT_FIVE))
        self.assert_lowest(-top, bottom, (-GREAT_TWO, GREAT_FIVE))
        self.assert_lowest(top, -bottom, (-GREAT_TWO, GREAT_FIVE))
        self.assert_lowest(-top, -bottom, (GREAT_TWO, GREAT_FIVE))
        self.assert_lowest(bottom, top, (GREAT_FIVE, GREAT_TWO))

    def test_great_without_common_divisor(self):
        self.assert_lowest(GREAT_TWO + 1, GREAT_TWO, (GREAT_TWO + 1, GREAT_TWO))
        self.assert_lowest(GREAT_TWO, -GREAT_TWO - 1, (-GREAT_TWO, GREAT_TWO + 1))

    def test_exact_beyond_what_a_float_holds(self):
        self.assert_lowest(2 * (10 ** 40 + 1), 2 * 10 ** 40, (10 ** 40 + 1, 10 ** 40))
        self.assert_lowest(3 * (2 ** 53 + 1), 3, (2 ** 53 + 1, 1))

    def test_many_steps_of_division(self):
        # Neighbours in this row take the most steps of division for their size.
        low, high = fibonacci_pair(5000)
        self.assert_lowest(low, high, (low, high))
        self.assert_lowest(6 * high, -6 * low, (-high, low))

    def test_all_small_ones(self):
        for top in range(-24, 25):
            for bottom in range(-24, 25):
                if bottom != 0:
                    same = Fraction(top, bottom)
                    self.assert_lowest(top, bottom, (same.numerator, same.denominator))

    def test_one_worth_has_one_fraction(self):
        for factor in (-GREAT_FIVE, -12, -1, 1, 2, 35, GREAT_FIVE):
            with self.subTest(factor=factor):
                self.assertEqual(lowest(14 * factor, 35 * factor), (2, 5))
                self.assertEqual(lowest(-14 * factor, 35 * factor), (-2, 5))

    def test_asked_again_answers_the_same(self):
        first = lowest(6, -4)
        lowest(5, 7)
        self.assertEqual(lowest(6, -4), first)
        self.assertEqual(lowest(top=6, bottom=-4), first)


class Times(FractionCase):
    def test_ordinary(self):
        self.assert_times((1, 2), (1, 3), (1, 6))
        self.assert_times((2, 3), (3, 4), (1, 2))
        self.assert_times((5, 7), (11, 13), (55, 91))
        self.assert_times((4, 9), (15, 8), (5, 6))
        self.assert_times((3, 1), (5, 1), (15, 1))

    def test_by_nought(self):
        for other in ((0, 1), (1, 1), (-1, 1), (7, 9), (-7, 9), (GREAT_TWO, GREAT_FIVE)):
            with self.subTest(other=other):
                self.assert_times((0, 1), other, (0, 1))

    def test_by_one(self):
        for other in ((0, 1), (1, 1), (-1, 1), (7, 9), (-7, 9), (GREAT_TWO, GREAT_FIVE)):
            with self.subTest(other=other):
                self.assert_times((1, 1), other, other)

    def test_by_minus_one(self):
        for other in ((0, 1), (1, 1), (-1, 1), (7, 9), (-7, 9), (GREAT_TWO, GREAT_FIVE)):
            with self.subTest(other=other):
                self.assert_times((-1, 1), other, (-other[0], other[1]))

    def test_by_the_turned_over_one(self):
        self.assert_times((7, 9), (9, 7), (1, 1))
        self.assert_times((-7, 9), (-9, 7), (1, 1))
        self.assert_times((5, 1), (1, 5), (1, 1))
        self.assert_times((GREAT_TWO, GREAT_FIVE), (GREAT_FIVE, GREAT_TWO), (1, 1))
        self.assert_times((-GREAT_TWO, GREAT_FIVE), (-GREAT_FIVE, GREAT_TWO), (1, 1))

    def test_tops_below_nought(self):
        self.assert_times((-2, 3), (3, 4), (-1, 2))
        self.assert_times((2, 3), (-3, 4), (-1, 2))
        self.assert_times((-2, 3), (-3, 4), (1, 2))

    def test_great(self):
        self.assert_times((GREAT_TWO, GREAT_THREE), (GREAT_THREE, GREAT_FIVE), (GREAT_TWO, GREAT_FIVE))
        self.assert_times((-GREAT_TWO, GREAT_THREE), (GREAT_THREE, GREAT_FIVE), (-GREAT_TWO, GREAT_FIVE))
        self.assert_times((GREAT_TWO, GREAT_THREE), (GREAT_FIVE, 1), (GREAT_TWO * GREAT_FIVE, GREAT_THREE))

    def test_all_small_ones(self):
        fractions = sorted({Fraction(top, bottom) for top in range(-7, 8) for bottom in range(1, 8)})
        for one in fractions:
            for other in fractions:
                product = one * other
                self.assert_times(
                    (one.numerator, one.denominator),
                    (other.numerator, other.denominator),
                    (product.numerator, product.denominator),
                )

    def test_leaves_its_arguments_as_they_were(self):
        one = (-6, 35)
        other = (GREAT_TWO, 3)
        times(one, other)
        times(other, one)
        times(one, one)
        self.assertEqual(one, (-6, 35))
        self.assertEqual(other, (GREAT_TWO, 3))

    def test_asked_again_answers_the_same(self):
        first = times((2, 3), (-3, 4))
        times((5, 7), (7, 5))
        self.assertEqual(times((2, 3), (-3, 4)), first)
        self.assertEqual(times(one=(2, 3), other=(-3, 4)), first)


if __name__ == "__main__":
    unittest.main()
