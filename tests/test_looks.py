"""Points 16 and 17: those who stay, and a division looked at two by two."""

import copy
import unittest
from fractions import Fraction
from itertools import combinations
from random import Random

from helper import SOME_SHAPES, divided, fault_of_fraction, meant, random_claims, random_shape, rule_of, told
from shortpurse import errors
from shortpurse.looks import pair_off, staying
from shortpurse.rules import Evenly, Groups, Halves, Losses, Ranks, Shares

WRONG_CLAIMS = [[], [(1, 0, 0)] * 9, [(-1, 0, 0)], [(4, 0, 0), (4, -1, 0)], [(4, 0, -1), (4, 0, 0)]]


def capped(claims, purse):
    return min(purse, sum(Fraction(claim[0]) for claim in claims))


def stayed(shape, claims, purse, away):
    """The words of point 16, by the words of point 13."""
    parts = divided(shape, claims, capped(claims, purse))
    places = [place for place in range(len(claims)) if place not in away]
    left = sum(parts[place] for place in places)
    return list(zip(places, map(told, divided(shape, [claims[place] for place in places], left))))


def first_pair(shape, claims, parts):
    """The words of point 17, by the words of point 13."""
    for i, j in combinations(range(len(claims)), 2):
        one, two = divided(shape, [claims[i], claims[j]], parts[i] + parts[j])
        if (one, two) != (parts[i], parts[j]):
            return (i, j, told(one), told(two))
    return None


def random_division(random, claims):
    bottom = random.randint(1, 9)
    return [Fraction(random.randint(0, claim[0] * bottom), bottom) for claim in claims]


class LookCase(unittest.TestCase):
    def assert_refused(self, error, call, *given):
        with self.assertRaises(errors.PurseError) as caught:
            call(*given)
        self.assertIs(type(caught.exception), error)


class Staying(LookCase):
    def assert_stays(self, shape, claims, purse, away):
        given = (claims, away)
        kept = copy.deepcopy(given)
        answer = staying(rule_of(shape), claims, told(purse), away)
        self.assertEqual(given, kept)
        self.assertIs(type(answer), list)
        for pair in answer:
            self.assertIs(type(pair), tuple)
            self.assertIs(type(pair[0]), int)
            self.assertIsNone(fault_of_fraction(pair[1]))
        self.assertEqual(answer, stayed(shape, claims, purse, away))
        return answer

    def test_written_examples(self):
        claims = [(100, 0, 0), (200, 0, 0), (300, 0, 0)]
        self.assertEqual(staying(Halves(), claims, (200, 1), [1]), [(0, (50, 1)), (2, (75, 1))])
        self.assertEqual(staying(Evenly(), claims, (400, 1), [0]), [(1, (150, 1)), (2, (150, 1))])
        self.assertEqual(staying(Shares(), claims, (100, 1), [2, 0]), [(1, (100, 3))])

    def test_others_than_before_where_groups_stand_in_the_rule(self):
        claims = [(10, 0, 1), (10, 0, 1), (10, 0, 2)]
        self.assertEqual(Groups(Evenly(), Evenly()).parts(claims, (12, 1)), ((3, 1), (3, 1), (6, 1)))
        rule = Groups(Evenly(), Evenly())
        self.assertEqual(staying(rule, claims, (12, 1), [1]), [(0, (9, 2)), (2, (9, 2))])

    def test_places_in_any_order_and_twice(self):
        claims = [(5, 2, 1), (7, 0, 0), (9, 1, 1), (4, 2, 0), (6, 0, 3)]
        for shape in SOME_SHAPES:
            wanted = self.assert_stays(shape, claims, 20, [1, 3])
            for away in [[3, 1], [3, 3, 1], [1, 3, 1, 3, 3], [3, 1] * 10]:
                self.assertEqual(self.assert_stays(shape, claims, 20, away), wanted)
            self.assertEqual([place for place, part in wanted], [0, 2, 4])

    def test_all_go_away(self):
        for shape in SOME_SHAPES:
            for claims in [[(5, 1, 0)], [(0, 0, 0)], [(5, 1, 0), (3, 0, 0), (9, 0, 2)]]:
                places = list(range(len(claims)))
                for away in [places, places[::-1], places + places]:
                    self.assertEqual(self.assert_stays(shape, claims, 4, away), [])

    def test_nobody_goes_away(self):
        random = Random(71)
        for turn in range(30):
            shape = random_shape(random, random.randint(1, 9))
            claims = random_claims(random, random.randint(1, 8))
            answer = self.assert_stays(shape, claims, 77, [])
            self.assertEqual(answer, list(enumerate(rule_of(shape).parts(claims, (77, 1)))))

    def test_many(self):
        random = Random(16)
        for turn in range(150):
            shape = random_shape(random, random.randint(1, 9))
            claims = random_claims(random, random.randint(1, 8), random.choice([1, 2, 60]))
            away = [random.randrange(len(claims)) for place in range(random.randint(0, 6))]
            whole = sum(claim[0] for claim in claims)
            for purse in [0, Fraction(whole, 5), Fraction(whole, 2), whole, whole + 3]:
                self.assert_stays(shape, claims, purse, away)

    def test_a_place_that_is_none(self):
        claims = [(5, 1, 0), (3, 0, 0), (9, 0, 2)]
        for shape in SOME_SHAPES:
            for away in [[3], [-1], [-3], [0, 1, 2, 3], [0, -1], [10 ** 59], [-(10 ** 59), 0]]:
                self.assert_refused(errors.NoPlace, staying, rule_of(shape), claims, (4, 1), away)
        self.assert_refused(errors.NoPlace, staying, Shares(), [(0, 0, 0)], (0, 1), [1])
        # No whole number is no place.
        self.assert_refused(errors.NoPlace, staying, Shares(), claims, (0, 1), [True])
        self.assertEqual(staying(Shares(), claims, (0, 1), [0, 2]), [(1, (0, 1))])

    def test_no_purse(self):
        claims = [(5, 1, 0), (3, 0, 0)]
        for away in [[], [0], [0, 1], [2], [-1]]:
            self.assert_refused(errors.NoPurse, staying, Halves(), claims, (-1, 7), away)

    def test_no_claims(self):
        for claims in WRONG_CLAIMS:
            for purse in [(1, 1), (-1, 1)]:
                for away in [[], [0], [9], [-1]]:
                    self.assert_refused(errors.NoClaims, staying, Ranks(Shares()), claims, purse, away)

    def test_a_told_list_is_the_askers_own(self):
        claims = [(5, 1, 0), (3, 0, 0), (9, 0, 2)]
        away = [1]
        first = staying(Losses(), claims, (6, 1), away)
        wanted = list(first)
        away.append(2)
        self.assertEqual(first, wanted)
        first.clear()
        self.assertEqual(staying(Losses(), claims, (6, 1), [1]), wanted)
        empty = staying(Losses(), claims, (6, 1), [0, 1, 2])
        empty.append(4)
        self.assertEqual(staying(Losses(), claims, (6, 1), [0, 1, 2]), [])


class PairOff(LookCase):
    def assert_pair(self, shape, claims, parts):
        division = [told(part) for part in parts]
        given = (claims, division)
        kept = copy.deepcopy(given)
        answer = pair_off(rule_of(shape), claims, division)
        self.assertEqual(given, kept)
        self.assertEqual(answer, first_pair(shape, claims, parts))
        return answer

    def test_written_examples(self):
        claims = [(100, 0, 0), (200, 0, 0), (300, 0, 0)]
        self.assertIsNone(pair_off(Halves(), claims, [(50, 1), (75, 1), (75, 1)]))
        self.assertEqual(
            pair_off(Halves(), claims, [(50, 1), (70, 1), (80, 1)]),
            (1, 2, (75, 1), (75, 1)),
        )
        self.assertEqual(
            pair_off(Shares(), claims, [(50, 1), (75, 1), (75, 1)]),
            (0, 1, (125, 3), (250, 3)),
        )
        self.assertEqual(
            pair_off(Evenly(), claims, [(50, 1), (50, 1), (75, 1)]),
            (0, 2, (125, 2), (125, 2)),
        )

    def test_the_order_of_the_two(self):
        claims = [(9, 0, 0)] * 5
        self.assertEqual(
            pair_off(Evenly(), claims, [(2, 1), (2, 1), (2, 1), (2, 1), (3, 1)]),
            (0, 4, (5, 2), (5, 2)),
        )
        claims = [(9, 2, 0), (9, 1, 0), (9, 3, 0), (9, 1, 0)]
        # Of (0, 2), (1, 3) and the rest alike only these two are otherwise; 0 comes first.
        self.assertEqual(
            pair_off(Ranks(Evenly()), claims, [(1, 1), (9, 1), (2, 1), (8, 1)]),
            (0, 2, (3, 1), (0, 1)),
        )

    def test_one_claim(self):
        for part in [(0, 1), (1, 2), (5, 1)]:
            self.assertIsNone(pair_off(Losses(), [(5, 0, 0)], [part]))

    def test_the_rules_own_division_where_groups_stand_in_it(self):
        claims = [(10, 0, 1), (10, 0, 1), (10, 0, 2)]
        rule = Groups(Evenly(), Evenly())
        division = list(rule.parts(claims, (12, 1)))
        self.assertEqual(pair_off(rule, claims, division), (0, 2, (9, 2), (9, 2)))

    def test_divisions_that_are_the_rules(self):
        random = Random(17)
        for turn in range(60):
            shape = random_shape(random, random.randint(1, 9), random.random() < 0.3)
            claims = random_claims(random, random.randint(1, 8), random.choice([1, 2, 60]))
            whole = sum(claim[0] for claim in claims)
            for purse in [0, Fraction(whole, 5), Fraction(whole, 2), whole]:
                parts = [meant(part) for part in rule_of(shape).parts(claims, told(purse))]
                self.assert_pair(shape, claims, parts)

    def test_divisions_of_any_kind(self):
        random = Random(18)
        for turn in range(150):
            shape = random_shape(random, random.randint(1, 9))
            claims = random_claims(random, random.randint(1, 8), random.choice([1, 2]))
            self.assert_pair(shape, claims, random_division(random, claims))

    def test_divisions_hard_by_the_rules(self):
        random = Random(19)
        little = Fraction(1, 10 ** 50)
        for shape in SOME_SHAPES:
            claims = [(random.randint(5, 40), random.randint(0, 2), random.randint(0, 2)) for place in range(5)]
            parts = [meant(part) for part in rule_of(shape).parts(claims, told(Fraction(5 * sum(c[0] for c in claims), 9)))]
            for i in range(5):
                for j in range(5):
                    moved = list(parts)
                    moved[i] -= little
                    moved[j] += little
                    if i != j and moved[i] >= 0 and moved[j] <= claims[j][0]:
                        self.assert_pair(shape, claims, moved)

    def test_no_division(self):
        claims = [(5, 1, 0), (3, 0, 0), (0, 0, 2)]
        wrong = [
            [],
            [(1, 1), (1, 1)],
            [(1, 1), (1, 1), (0, 1), (0, 1)],
            [(-1, 9), (1, 1), (0, 1)],
            [(1, 1), (1, 1), (-1, 1)],
            [(1, 1), (1, 1), (1, 10 ** 59)],
            [(11, 2), (1, 1), (0, 1)],
            [(5, 1), (10 ** 59 * 3 + 1, 10 ** 59), (0, 1)],
        ]
        for shape in SOME_SHAPES:
            for division in wrong:
                self.assert_refused(errors.NoDivision, pair_off, rule_of(shape), claims, division)
            for division in [[(5, 1), (3, 1), (0, 1)], [(0, 1), (0, 1), (0, 1)]]:
                self.assertIsNone(pair_off(rule_of(shape), claims, division))

    def test_no_division_of_one_claim(self):
        for division in [[(-1, 2)], [(11, 2)], [], [(1, 1), (1, 1)]]:
            self.assert_refused(errors.NoDivision, pair_off, Shares(), [(5, 0, 0)], division)

    def test_no_claims(self):
        for claims in WRONG_CLAIMS:
            for division in [[], [(0, 1)] * len(claims), [(-1, 1)] * len(claims), [(9, 1)], [(0, 1)] * 3]:
                self.assert_refused(errors.NoClaims, pair_off, Evenly(), claims, division)

    def test_what_is_done_later_changes_nothing(self):
        claims = [(100, 0, 0), (200, 0, 0)]
        division = [(10, 1), (20, 1)]
        answer = pair_off(Evenly(), claims, division)
        division.clear()
        claims.clear()
        self.assertEqual(answer, (0, 1, (15, 1), (15, 1)))


if __name__ == "__main__":
    unittest.main()
