import copy
import unittest
from fractions import Fraction
from random import Random

from helper import faults_of_path, meant, nothing, parts_of, path_of, random_path, row, some_purses, stretched, told
from shortpurse.paths import behind, scaled, turned, within


def many_paths():
    paths = [nothing(1), nothing(3), row([5]), row([0, 4]), row([2, 0], [3, 3], [3, 7])]
    for count in range(1, 9):
        for seed in range(5):
            paths.append(random_path(seed, count, 1 + seed * 4, [1, 3, 60][seed % 3]))
    return paths


class PathCase(unittest.TestCase):
    def told_of(self, call, *given):
        """What is told, looked at as a path, with what was handed in as it was."""
        kept = copy.deepcopy(given)
        answer = call(*given)
        self.assertEqual(faults_of_path(answer), [])
        self.assertEqual(given, kept)
        wanted = list(answer)
        answer.clear()
        self.assertEqual(given, kept)
        again = call(*given)
        self.assertEqual(again, wanted)
        return again


class Turned(PathCase):
    def test_written_example(self):
        self.assertEqual(turned(row([2, 0], [3, 3], [3, 7])), row([0, 4], [1, 7], [3, 7]))

    def test_the_one_corner(self):
        for count in range(1, 9):
            self.assertEqual(self.told_of(turned, nothing(count)), nothing(count))

    def test_parts_are_what_is_lacking(self):
        for path in many_paths():
            answer = self.told_of(turned, path)
            end = meant(path[-1][0])
            self.assertEqual(answer[-1], path[-1])
            for purse in some_purses(path, answer):
                lacking = parts_of(path, end - purse)
                wanted = [meant(whole) - part for whole, part in zip(path[-1][1], lacking)]
                self.assertEqual(parts_of(answer, purse), wanted)

    def test_turned_again(self):
        for path in many_paths():
            self.assertEqual(turned(turned(path)), path)


class Scaled(PathCase):
    def test_written_example(self):
        path = row([2, 0], [3, 3])
        self.assertEqual(scaled(path, (2, 3)), row([Fraction(4, 3), 0], [2, 2]))

    def test_parts_are_multiplied(self):
        for path in many_paths():
            for portion in [Fraction(1, 2), Fraction(7, 3), Fraction(10 ** 59, 3), Fraction(1, 10 ** 59), 12]:
                answer = self.told_of(scaled, path, told(portion))
                self.assertEqual(len(answer), len(path))
                for purse in some_purses(path):
                    wanted = [part * portion for part in parts_of(path, purse)]
                    self.assertEqual(parts_of(answer, purse * portion), wanted)

    def test_by_one(self):
        for path in many_paths():
            answer = self.told_of(scaled, path, (1, 1))
            self.assertEqual(answer, path)
            self.assertIsNot(answer, path)


class Behind(PathCase):
    def assert_behind(self, path, second):
        answer = self.told_of(behind, path, second)
        end = meant(path[-1][0])
        whole = [meant(part) for part in path[-1][1]]
        self.assertEqual(meant(answer[-1][0]), end + meant(second[-1][0]))
        for purse in some_purses(path):
            self.assertEqual(parts_of(answer, purse), parts_of(path, purse))
        for purse in some_purses(second):
            wanted = [one + two for one, two in zip(whole, parts_of(second, purse))]
            self.assertEqual(parts_of(answer, end + purse), wanted)
        return answer

    def test_written_example(self):
        self.assertEqual(behind(row([1, 0], [1, 2]), row([3, 0], [3, 1])), row([1, 0], [1, 2], [4, 2], [4, 3]))

    def test_the_last_line_goes_on_straight(self):
        self.assertEqual(self.assert_behind(row([1, 0], [2, 2]), row([2, 4], [3, 4])), row([1, 0], [4, 6], [5, 6]))
        self.assertEqual(self.assert_behind(row([1, 2]), row([3, 6])), row([4, 8]))
        self.assertEqual(self.assert_behind(row([4]), row([Fraction(1, 3)])), row([Fraction(13, 3)]))

    def test_either_is_the_one_corner(self):
        for path in many_paths():
            one = nothing(len(path[0][1]))
            self.assertEqual(self.assert_behind(one, path), path)
            self.assertEqual(self.assert_behind(path, one), path)
            self.assertIsNot(behind(one, path), path)
            self.assertIsNot(behind(path, one), path)

    def test_both_are_the_one_corner(self):
        self.assertEqual(self.assert_behind(nothing(4), nothing(4)), nothing(4))

    def test_many(self):
        paths = many_paths()
        for path in paths:
            for second in paths:
                if len(path[0][1]) == len(second[0][1]):
                    self.assert_behind(path, second)


class Within(PathCase):
    def assert_within(self, path, others):
        answer = self.told_of(within, path, others)
        self.assertEqual(answer[-1][0], path[-1][0])
        for purse in some_purses(path, answer):
            wanted = []
            for part, other in zip(parts_of(path, purse), others):
                wanted += parts_of(other, part)
            self.assertEqual(parts_of(answer, purse), wanted)
        return answer

    def random_others(self, path, seed):
        random = Random(seed)
        others = []
        room = 8 - len(path[0][1])
        for part in path[-1][1]:
            more = random.randint(0, min(room, 3))
            room -= more
            inner = random_path(random.randint(0, 10 ** 6), 1 + more, random.randint(2, 9), random.randint(1, 3))
            others.append(path_of(stretched(inner, meant(part))))
        return others

    def test_written_example(self):
        path = row([2, 2], [2, 6])
        others = [row([1, 0], [1, 1]), row([0, 4], [2, 4])]
        self.assertEqual(
            self.assert_within(path, others),
            row([1, 0, 0, 1], [1, 1, 0, 2], [1, 1, 0, 4], [1, 1, 2, 4]),
        )

    def test_a_corner_between_the_corners_of_the_path(self):
        self.assertEqual(
            self.assert_within(row([3, 6]), [row([1, 0], [1, 2]), row([6])]),
            row([1, 0, 2], [1, 2, 6]),
        )

    def test_others_of_one_part_leave_the_path(self):
        path = row([2, 0], [3, 3], [3, 7])
        self.assertEqual(self.assert_within(path, [row([3]), row([7])]), path)

    def test_an_other_bends_at_a_corner_of_the_path(self):
        path = row([1, 0], [1, 1], [2, 1])
        self.assertEqual(self.assert_within(path, [row([1, 0], [1, 1]), row([1])]), row([1, 0, 0], [1, 0, 1], [1, 1, 1]))

    def test_an_other_bends_just_where_the_path_stays_level(self):
        path = row([1, 0], [1, 2], [3, 2])
        answer = self.assert_within(path, [row([1, 0], [1, 2]), row([2])])
        self.assertEqual(answer, row([1, 0, 0], [1, 0, 2], [1, 2, 2]))

    def test_some_are_the_one_corner(self):
        path = row([2, 0, 0], [2, 0, 3])
        others = [row([0, 1], [1, 1]), nothing(2), row([3])]
        self.assertEqual(
            self.assert_within(path, others),
            row([0, 1, 0, 0, 0], [1, 1, 0, 0, 0], [1, 1, 0, 0, 3]),
        )

    def test_all_are_the_one_corner(self):
        self.assertEqual(self.assert_within(nothing(2), [nothing(3), nothing(1)]), nothing(4))
        self.assertEqual(self.assert_within(nothing(1), [nothing(8)]), nothing(8))

    def test_many(self):
        for count in range(1, 9):
            for seed in range(12):
                path = random_path(seed, count, 1 + seed, 1 + seed % 3)
                self.assert_within(path, self.random_others(path, seed))

    def test_many_figures(self):
        path = random_path(6, 2, 6, 60)
        others = [path_of(stretched(random_path(seed, 3, 5, 20), meant(part))) for seed, part in enumerate(path[-1][1])]
        self.assert_within(path, others)


if __name__ == "__main__":
    unittest.main()
