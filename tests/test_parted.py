import copy
import unittest
from fractions import Fraction

from helper import corner, fault_of_fraction, meant, nothing, parts_of, path_of, random_path, row, some_purses
from shortpurse.paths import parted


def same_end(path, other):
    """A path of another course with the last corner of path, or None where there is no such of it."""
    shares = []
    for mine, theirs in zip(path[-1][1], other[-1][1]):
        if theirs[0] == 0 and mine[0] != 0:
            return None
        shares.append(meant(mine) / meant(theirs) if theirs[0] else Fraction(0))
    corners = [corner([meant(part) * share for part, share in zip(each[1], shares)]) for each in other]
    rising = [each for place, each in enumerate(corners) if place == 0 or each[0] != corners[place - 1][0]]
    return path_of(rising)


def last_same(path, second):
    """The greatest of all corners' purses up to which both have the same parts."""
    same = Fraction(0)
    for purse in some_purses(path, second):
        if parts_of(path, purse) != parts_of(second, purse):
            return same
        same = purse
    return same


class Parted(unittest.TestCase):
    def assert_parts_at(self, path, second, wanted):
        kept = copy.deepcopy((path, second))
        answer = parted(path, second)
        self.assertEqual((path, second), kept)
        self.assertIsInstance(answer, tuple)
        purse, later, place = answer
        self.assertIsNone(fault_of_fraction(purse))
        self.assertIsNone(fault_of_fraction(later))
        self.assertIs(type(place), int)
        self.assertEqual(meant(purse), wanted)
        self.assertLess(meant(purse), meant(later))
        self.assertIn(place, range(len(path[0][1])))
        self.assertNotEqual(parts_of(path, meant(later))[place], parts_of(second, meant(later))[place])

    def assert_both_ways(self, path, second, wanted):
        self.assert_parts_at(path, second, wanted)
        self.assert_parts_at(second, path, wanted)

    def test_equal_paths(self):
        for count in range(1, 9):
            self.assertIsNone(parted(nothing(count), nothing(count)))
            for seed in range(6):
                path = random_path(seed, count, 2 + 3 * seed, [1, 60][seed % 2])
                self.assertIsNone(parted(path, path))
                self.assertIsNone(parted(path, copy.deepcopy(path)))

    def test_from_the_first_on(self):
        self.assert_both_ways(row([2, 2]), row([2, 0], [2, 2]), 0)
        self.assert_both_ways(row([2, 0], [2, 2]), row([0, 2], [2, 2]), 0)

    def test_behind_a_corner_of_both(self):
        self.assert_both_ways(row([1, 0], [1, 2], [3, 2]), row([1, 0], [3, 2]), 1)

    def test_behind_a_corner_of_one_alone(self):
        self.assert_both_ways(row([1, 0], [1, 3], [3, 3]), row([2, 0], [2, 3], [3, 3]), 1)
        self.assert_both_ways(row([1, 1], [1, 4], [4, 4]), row([4, 4]), 2)

    def test_paths_that_meet_again(self):
        self.assert_both_ways(
            row([1, 0], [1, 1], [2, 1], [2, 2]),
            row([1, 0], [1, 1], [1, 2], [2, 2]),
            2,
        )
        self.assert_both_ways(
            row([1, 0], [1, 1], [2, 2], [3, 2]),
            row([0, 1], [1, 1], [2, 2], [3, 2]),
            0,
        )

    def test_paths_that_cross_between_corners(self):
        self.assert_both_ways(row([2, 0], [2, 2], [4, 4]), row([0, 1], [4, 1], [4, 4]), 0)

    def test_alike_but_for_the_last_two_parts(self):
        self.assert_both_ways(row([3, 0, 0], [3, 1, 1]), row([3, 0, 0], [3, 1, 0], [3, 1, 1]), 3)

    def test_slight_difference(self):
        great = 10 ** 59
        self.assert_both_ways(
            row([great, 0], [great + 1, great]),
            row([great, 0], [great, 1], [great + 1, great]),
            great,
        )

    def test_many(self):
        looked = 0
        for count in range(2, 9):
            for seed in range(30):
                path = random_path(seed, count, 3 + seed % 7)
                second = same_end(path, random_path(seed + 1000, count, 3 + seed % 5))
                if second is None or second == path:
                    continue
                looked += 1
                self.assert_both_ways(path, second, last_same(path, second))
        self.assertGreater(looked, 60)

    def test_many_with_a_common_beginning(self):
        for count in range(2, 7):
            for seed in range(15):
                path = random_path(seed, count, 4 + seed % 6)
                cut = 1 + seed % (len(path) - 1)
                second = path_of(path[:cut] + path[-1:])
                if second == path:
                    self.assertIsNone(parted(path, second))
                else:
                    self.assertGreaterEqual(last_same(path, second), meant(path[cut - 1][0]))
                    self.assert_both_ways(path, second, last_same(path, second))


if __name__ == "__main__":
    unittest.main()
