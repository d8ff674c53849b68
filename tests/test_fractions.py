import unittest
from fractions import Fraction
from random import Random

from helper import fault_of_fraction, told
from shortpurse import errors
from shortpurse.fractions import before, fraction, minus, over, plus, times


SIXTY = 10 ** 60 - 1
NUMBERS = [-SIXTY, -(7 ** 70), -1000, -6, -4, -1, 0, 1, 2, 6, 9, 1000, 2 ** 198, 3 ** 125, SIXTY]


def many_fractions():
    random = Random(5)
    small = [told(Fraction(top, bottom)) for top in range(-4, 5) for bottom in range(1, 5)]
    great = [
        told(Fraction(random.randint(-SIXTY, SIXTY), random.randint(1, SIXTY)))
        for place in range(20)
    ]
    return sorted(set(small)) + great


class Made(unittest.TestCase):
    def test_written_examples(self):
        self.assertEqual(fraction(6, 4), (3, 2))
        self.assertEqual(fraction(-6, 4), (-3, 2))
        self.assertEqual(fraction(6, -4), (-3, 2))
        self.assertEqual(fraction(-6, -4), (3, 2))
        self.assertEqual(fraction(0, 5), (0, 1))
        self.assertEqual(fraction(0, -5), (0, 1))
        self.assertEqual(fraction(7, 7), (1, 1))
        self.assertEqual(fraction(3, 1), (3, 1))
        self.assertEqual(fraction(1, 3), (1, 3))
        self.assertEqual(fraction(SIXTY, -SIXTY), (-1, 1))
        self.assertEqual(fraction(2 * SIXTY, 3 * 10 ** 60), (SIXTY // 3, 5 * 10 ** 59))

    def test_lowest_terms_and_the_bottom_from_one_on(self):
        for top in NUMBERS:
            for bottom in NUMBERS:
                if bottom != 0:
                    answer = fraction(top, bottom)
                    self.assertIsNone(fault_of_fraction(answer))
                    self.assertEqual(answer[0] * bottom, answer[1] * top)

    def test_four_thousand_figures(self):
        great = 10 ** 3990
        self.assertEqual(fraction(-6 * great, 4 * great), (-3, 2))
        self.assertEqual(fraction(great + 1, great), (great + 1, great))


class Reckoned(unittest.TestCase):
    def assert_tells(self, answer, top, bottom):
        self.assertIsNone(fault_of_fraction(answer))
        self.assertEqual(answer[0] * bottom, answer[1] * top)

    def test_written_examples(self):
        self.assertEqual(plus((1, 6), (1, 3)), (1, 2))
        self.assertEqual(plus((1, 2), (-1, 2)), (0, 1))
        self.assertEqual(minus((1, 3), (1, 2)), (-1, 6))
        self.assertEqual(minus((5, 7), (5, 7)), (0, 1))
        self.assertEqual(times((-2, 3), (3, 4)), (-1, 2))
        self.assertEqual(times((0, 1), (3, 4)), (0, 1))
        self.assertEqual(over((1, 2), (-3, 4)), (-2, 3))
        self.assertEqual(over((0, 1), (-3, 4)), (0, 1))

    def test_crosswise(self):
        fractions = many_fractions()
        for a, b in fractions:
            for c, d in fractions:
                self.assert_tells(plus((a, b), (c, d)), a * d + c * b, b * d)
                self.assert_tells(minus((a, b), (c, d)), a * d - c * b, b * d)
                self.assert_tells(times((a, b), (c, d)), a * c, b * d)
                if c != 0:
                    self.assert_tells(over((a, b), (c, d)), a * d, b * c)

    def test_before_both_ways_about(self):
        fractions = many_fractions()
        for one in fractions:
            for two in fractions:
                less = one[0] * two[1] < two[0] * one[1]
                self.assertIs(before(one, two), less)
                self.assertIs(before(two, one), not less and one != two)

    def test_before_of_one_and_itself(self):
        for one in many_fractions():
            self.assertIs(before(one, one), False)

    def test_before_where_tops_and_bottoms_go_against_one_another(self):
        self.assertIs(before((1, 2), (2, 3)), True)
        self.assertIs(before((3, 5), (1, 2)), False)
        self.assertIs(before((-1, 2), (-1, 3)), True)
        self.assertIs(before((-1, 3), (-1, 2)), False)
        self.assertIs(before((-1, 2), (0, 1)), True)
        self.assertIs(before((SIXTY - 1, SIXTY), (1, 1)), True)


class Refused(unittest.TestCase):
    def assert_refused(self, call, one, two):
        with self.assertRaises(errors.NoFraction) as caught:
            call(one, two)
        self.assertIsInstance(caught.exception, errors.PurseError)
        self.assertIsInstance(caught.exception, ValueError)
        for other in [errors.NoPurse, errors.NoClaims, errors.NoRule, errors.NoPlace, errors.NoDivision]:
            self.assertNotIsInstance(caught.exception, other)

    def test_a_bottom_of_nothing(self):
        for top in NUMBERS:
            self.assert_refused(fraction, top, 0)

    def test_what_is_no_whole_number(self):
        for top, bottom in [(True, 2), (2, True), (False, 1), (1, False), ("1", 2), (1, None), (1.5, 2)]:
            self.assert_refused(fraction, top, bottom)

    def test_a_quotient_by_nothing(self):
        for one in many_fractions():
            self.assert_refused(over, one, (0, 1))


if __name__ == "__main__":
    unittest.main()
