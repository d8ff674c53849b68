import copy
import unittest
from fractions import Fraction

from helper import fault_of_fraction, meant, nothing, parts_of, random_path, row, some_purses, told
from shortpurse import errors
from shortpurse.paths import parts_at


class PartsAt(unittest.TestCase):
    def assert_parts(self, path, purse, wanted):
        kept = copy.deepcopy(path)
        answer = parts_at(path, told(purse))
        self.assertIsInstance(answer, tuple)
        for part in answer:
            self.assertIsNone(fault_of_fraction(part))
        self.assertEqual(answer, tuple(told(part) for part in wanted))
        self.assertEqual(path, kept)

    def test_written_examples(self):
        path = row([2, 0], [3, 3], [3, 7])
        self.assert_parts(path, 0, [0, 0])
        self.assert_parts(path, 1, [1, 0])
        self.assert_parts(path, 2, [2, 0])
        self.assert_parts(path, 3, [Fraction(9, 4), Fraction(3, 4)])
        self.assert_parts(path, 4, [Fraction(5, 2), Fraction(3, 2)])
        self.assert_parts(path, 6, [3, 3])
        self.assert_parts(path, Fraction(13, 2), [3, Fraction(7, 2)])
        self.assert_parts(path, 10, [3, 7])
        self.assert_parts(path, Fraction(101, 10), [3, 7])
        self.assert_parts(path, 10 ** 60, [3, 7])

    def test_the_one_corner(self):
        for count in range(1, 9):
            for purse in [0, Fraction(1, 10 ** 59), 1, 10 ** 59]:
                self.assert_parts(nothing(count), purse, [0] * count)

    def test_at_corners_and_between_them(self):
        for count in range(1, 9):
            for seed in range(8):
                for figures in [1, 4, 60]:
                    path = random_path(seed, count, 2 + seed * 3, figures)
                    for purse in some_purses(path):
                        self.assert_parts(path, purse, parts_of(path, purse))

    def test_at_each_corner_its_parts(self):
        path = random_path(3, 5, 60)
        for purse, parts in path:
            self.assertEqual(parts_at(path, purse), parts)

    def test_beyond_the_last_purse(self):
        path = random_path(4, 3, 20)
        end = meant(path[-1][0])
        for purse in [end, end + Fraction(1, 10 ** 50), end * 2, end + 10 ** 60]:
            self.assert_parts(path, purse, parts_of(path, end))

    def test_hard_by_a_corner(self):
        path = row([2, 0], [3, 3], [3, 7])
        little = Fraction(1, 10 ** 50)
        self.assert_parts(path, 2 - little, [2 - little, 0])
        self.assert_parts(path, 2 + little, [2 + little / 4, 3 * little / 4])
        self.assert_parts(path, 10 - little, [3, 7 - little])

    def test_a_purse_below_nothing_is_refused(self):
        for path in [nothing(3), row([2, 0], [3, 3])]:
            for purse in [(-1, 1), (-1, 10 ** 59), (-(10 ** 59), 3)]:
                with self.assertRaises(errors.NoPurse) as caught:
                    parts_at(path, purse)
                self.assertIsInstance(caught.exception, errors.PurseError)
                self.assertNotIsInstance(caught.exception, errors.NoFraction)


if __name__ == "__main__":
    unittest.main()
