import copy
import unittest
from fractions import Fraction

from helper import corner, faults_of_path, nothing, path_of, random_row, row
from shortpurse.paths import thinned


class Thinned(unittest.TestCase):
    def assert_thins(self, corners, wanted):
        kept = copy.deepcopy(corners)
        answer = thinned(corners)
        self.assertEqual(answer, wanted)
        self.assertEqual(faults_of_path(answer), [])
        self.assertEqual(corners, kept)
        self.assertIsNot(answer, corners)

    def test_one_corner(self):
        for count in range(1, 9):
            self.assert_thins(nothing(count), nothing(count))

    def test_two_corners(self):
        self.assert_thins(row([3]), row([3]))
        self.assert_thins(row([0, 5]), row([0, 5]))
        self.assert_thins(row([1, 2, Fraction(1, 3)]), row([1, 2, Fraction(1, 3)]))

    def test_no_corner_lies_straight(self):
        corners = row([1, 0], [1, 1], [2, 1], [2, 2])
        self.assert_thins(corners, corners)

    def test_a_corner_that_only_one_pair_of_parts_bends(self):
        corners = row([2, 1, 1], [4, 3, 1])
        self.assert_thins(corners, corners)
        corners = row([1, 1, 2], [3, 1, 4])
        self.assert_thins(corners, corners)

    def test_a_corner_on_the_line_but_not_at_its_middle(self):
        self.assert_thins(row([1, 2], [10, 20]), row([10, 20]))
        self.assert_thins(row([9, 18], [10, 20]), row([10, 20]))

    def test_the_middle_of_the_parts_at_another_purse_is_a_corner(self):
        corners = row([1, 3], [3, 5])
        self.assert_thins(corners, corners)

    def test_some_lie_straight(self):
        self.assert_thins(row([1, 0], [2, 0], [2, 3], [3, 3]), row([2, 0], [2, 3], [3, 3]))
        self.assert_thins(row([1, 0], [1, 3], [1, 5], [3, 5]), row([1, 0], [1, 5], [3, 5]))
        self.assert_thins(row([1, 0], [1, 3], [2, 3], [5, 3]), row([1, 0], [1, 3], [5, 3]))

    def test_several_behind_one_another(self):
        corners = row([1, 1], [2, 2], [5, 5], [6, 6], [6, 7], [6, 9], [6, 10], [7, 10])
        self.assert_thins(corners, row([6, 6], [6, 10], [7, 10]))

    def test_all_but_the_first_and_the_last(self):
        corners = row(*[[k, 2 * k, 0] for k in range(1, 30)])
        self.assert_thins(corners, row([29, 58, 0]))

    def test_a_row_of_one_part_is_one_line(self):
        self.assert_thins(row([1], [2], [Fraction(5, 2)], [9]), row([9]))

    def test_a_bend_that_lines_from_a_corner_further_off_would_hide(self):
        corners = row([1, 0], [1, 1], [2, 1], [2, 2], [3, 2], [3, 3])
        self.assert_thins(corners, corners)

    def test_slight_bends_are_bends(self):
        great = 10 ** 59
        bent = row([great, great], [2 * great - 1, 2 * great + 1], [3 * great, 3 * great + 1])
        self.assert_thins(bent, bent)
        self.assert_thins(row([great, great + 1], [3 * great, 3 * great + 3]), row([3 * great, 3 * great + 3]))

    def test_many_rows(self):
        for count in range(1, 9):
            for seed in range(12):
                for figures in [1, 3, 60]:
                    corners = random_row(seed, count, 1 + seed * 2, figures)
                    self.assert_thins(corners, path_of(corners))

    def test_two_hundred_corners(self):
        corners = random_row(77, 8, 200, 60)
        self.assert_thins(corners, path_of(corners))

    def test_a_told_list_is_the_askers_own(self):
        for corners in [nothing(2), row([1, 2]), row([1, 0], [2, 0], [2, 1])]:
            first = thinned(corners)
            wanted = list(first)
            first.clear()
            self.assertEqual(thinned(corners), wanted)

    def test_what_is_done_later_with_the_row_changes_nothing(self):
        corners = row([1, 0], [2, 0], [2, 1])
        answer = thinned(corners)
        corners.clear()
        corners.append(corner([7]))
        self.assertEqual(answer, row([2, 0], [2, 1]))


if __name__ == "__main__":
    unittest.main()
