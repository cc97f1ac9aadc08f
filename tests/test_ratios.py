import unittest
from fractions import Fraction
from math import gcd

from beamtable.errors import NoFraction
from beamtable.ratios import fraction, minus, over, plus, times, under

SIXTY = 10 ** 59 + 12345678901234567890
OTHER_SIXTY = 987654321 * 10 ** 51 + 7
THIRTY = 10 ** 29 + 57
OTHER_THIRTY = 9 * 10 ** 29 + 11

# Above, below and at 0, of alike and unlike bottoms, nearly alike, and of many figures.
SAMPLES = [
    (0, 1), (1, 1), (-1, 1), (7, 1), (-12, 1), (1, 2), (-1, 2), (1, 3), (2, 3), (-2, 3), (1, 6), (5, 6),
    (-5, 6), (3, 4), (4, 3), (-4, 3), (99, 100), (100, 101), (-99, 100), (-100, 101),
    (THIRTY, OTHER_THIRTY), (-THIRTY, OTHER_THIRTY), (THIRTY + 1, OTHER_THIRTY), (OTHER_THIRTY, THIRTY),
    (1, OTHER_THIRTY), (-1, OTHER_THIRTY), (THIRTY, 1),
]
SAMPLES = [(Fraction(*pair).numerator, Fraction(*pair).denominator) for pair in SAMPLES]


def as_pair(value):
    return (value.numerator, value.denominator)


class Case(unittest.TestCase):
    def check_fraction(self, told, asked):
        self.assertIs(type(told), tuple)
        self.assertEqual(len(told), 2)
        self.assertIs(type(told[0]), int)
        self.assertIs(type(told[1]), int)
        self.assertGreaterEqual(told[1], 1)
        self.assertEqual(gcd(told[0], told[1]), 1)
        self.assertEqual(told, asked)

    def check_refused(self, deed, one, other):
        with self.assertRaises(NoFraction) as taken:
            deed(one, other)
        self.assertIs(type(taken.exception), NoFraction)


class Made(Case):
    def test_lowest_terms(self):
        self.check_fraction(fraction(2 * 2 * 3 * 5 * 7, 2 * 3 * 3 * 7 * 11), (10, 33))
        self.check_fraction(fraction(720720, 5040), (143, 1))
        self.check_fraction(fraction(5040, 720720), (1, 143))
        self.check_fraction(fraction(3, 7), (3, 7))

    def test_second_below_0(self):
        self.check_fraction(fraction(6, -4), (-3, 2))
        self.check_fraction(fraction(1, -7), (-1, 7))

    def test_first_below_0(self):
        self.check_fraction(fraction(-6, 4), (-3, 2))

    def test_both_below_0(self):
        self.check_fraction(fraction(-6, -4), (3, 2))
        self.check_fraction(fraction(-5, -5), (1, 1))

    def test_first_0(self):
        for bottom in (1, 2, 360, SIXTY, -1, -2, -360, -SIXTY):
            with self.subTest(bottom):
                self.check_fraction(fraction(0, bottom), (0, 1))

    def test_1_and_minus_1(self):
        self.check_fraction(fraction(1, 1), (1, 1))
        self.check_fraction(fraction(1, -1), (-1, 1))
        self.check_fraction(fraction(-1, 1), (-1, 1))
        self.check_fraction(fraction(-1, -1), (1, 1))

    def test_sixty_figures(self):
        self.assertEqual((len(str(SIXTY)), len(str(OTHER_SIXTY))), (60, 60))
        for top in (SIXTY, -SIXTY, SIXTY * 6):
            for bottom in (OTHER_SIXTY, -OTHER_SIXTY, OTHER_SIXTY * 4, SIXTY, -SIXTY):
                with self.subTest(top=top, bottom=bottom):
                    self.check_fraction(fraction(top, bottom), as_pair(Fraction(top, bottom)))
        self.check_fraction(fraction(10 ** 59, 10 ** 59 - 10 ** 58), (10, 9))
        self.check_fraction(fraction(10 ** 59 * 3, -(10 ** 59)), (-3, 1))

    def test_four_thousand_figures(self):
        top = 10 ** 3999 + 1
        bottom = 10 ** 3998 * 7 + 3
        self.check_fraction(fraction(top, -bottom), as_pair(Fraction(top, -bottom)))

    def test_all_small_ones(self):
        for top in range(-24, 25):
            for bottom in list(range(-24, 0)) + list(range(1, 25)):
                with self.subTest(top=top, bottom=bottom):
                    self.check_fraction(fraction(top, bottom), as_pair(Fraction(top, bottom)))

    def test_second_0_is_refused(self):
        for top in (0, 1, -1, 12, SIXTY, -SIXTY):
            with self.subTest(top):
                self.check_refused(fraction, top, 0)


class Reckoned(Case):
    def check_all(self, deed, asked):
        for one in SAMPLES:
            for other in SAMPLES:
                with self.subTest(one=one, other=other):
                    self.check_fraction(deed(one, other), as_pair(asked(Fraction(*one), Fraction(*other))))

    def test_sums(self):
        self.check_fraction(plus((1, 6), (1, 3)), (1, 2))
        self.check_fraction(plus((1, 6), (1, 6)), (1, 3))
        self.check_fraction(plus((1, 2), (-1, 2)), (0, 1))
        self.check_all(plus, lambda one, other: one + other)

    def test_differences(self):
        self.check_fraction(minus((1, 2), (1, 3)), (1, 6))
        self.check_fraction(minus((1, 3), (1, 2)), (-1, 6))
        self.check_all(minus, lambda one, other: one - other)

    def test_a_fraction_less_itself_is_0(self):
        for one in SAMPLES:
            with self.subTest(one):
                self.check_fraction(minus(one, one), (0, 1))

    def test_products(self):
        self.check_fraction(times((2, 3), (3, 4)), (1, 2))
        self.check_fraction(times((-2, 3), (-3, 2)), (1, 1))
        self.check_fraction(times((-2, 3), (0, 1)), (0, 1))
        self.check_all(times, lambda one, other: one * other)

    def test_quotients(self):
        self.check_fraction(over((1, 2), (3, 4)), (2, 3))
        self.check_fraction(over((1, 2), (-3, 4)), (-2, 3))
        self.check_fraction(over((-1, 2), (-3, 4)), (2, 3))
        self.check_fraction(over((0, 1), (-3, 4)), (0, 1))
        for one in SAMPLES:
            for other in SAMPLES:
                if other != (0, 1):
                    with self.subTest(one=one, other=other):
                        self.check_fraction(over(one, other), as_pair(Fraction(*one) / Fraction(*other)))

    def test_quotients_by_0_are_refused(self):
        for one in SAMPLES:
            with self.subTest(one):
                self.check_refused(over, one, (0, 1))

    def test_times_and_over_undo_one_another(self):
        for one in SAMPLES:
            for other in SAMPLES:
                if other != (0, 1):
                    with self.subTest(one=one, other=other):
                        self.check_fraction(over(times(one, other), other), one)
                        self.check_fraction(times(over(one, other), other), one)


class Less(Case):
    def check_under(self, one, other, asked):
        self.assertIs(under(one, other), asked)

    def test_nearly_alike(self):
        self.check_under((99, 100), (100, 101), True)
        self.check_under((100, 101), (99, 100), False)
        self.check_under((-99, 100), (-100, 101), False)
        self.check_under((-100, 101), (-99, 100), True)
        self.check_under((THIRTY, THIRTY + 1), (THIRTY + 1, THIRTY + 2), True)
        self.check_under((THIRTY + 1, THIRTY + 2), (THIRTY, THIRTY + 1), False)

    def test_alike(self):
        for one in SAMPLES:
            with self.subTest(one):
                self.check_under(one, one, False)

    def test_both_sides_of_0(self):
        self.check_under((-1, 2), (1, 3), True)
        self.check_under((1, 3), (-1, 2), False)
        self.check_under((-1, 2), (0, 1), True)
        self.check_under((0, 1), (-1, 2), False)
        self.check_under((0, 1), (1, 2), True)
        self.check_under((1, 2), (0, 1), False)

    def test_all_samples(self):
        for one in SAMPLES:
            for other in SAMPLES:
                with self.subTest(one=one, other=other):
                    self.check_under(one, other, Fraction(*one) < Fraction(*other))


if __name__ == "__main__":
    unittest.main()
