"""Points 12 to 14: claims, each rule's path and the parts for a purse."""

import copy
import unittest
from fractions import Fraction
from random import Random

from helper import (
    PLAIN, SOME_SHAPES, corner, divided, faults_of_path, meant, nothing, parts_of, random_claims, random_shape, row,
    rule_of, some_purses, told,
)
from shortpurse import errors
from shortpurse.paths import turned
from shortpurse.rules import Evenly, Groups, Halves, Losses, Other, Ranks, Shares, Upto


def plain(*amounts):
    return [(amount, 0, 0) for amount in amounts]


def between(path):
    """Purses at the corners and at several places of each line."""
    purses = some_purses(path)
    more = [one + (two - one) * k / 7 for one, two in zip(purses, purses[1:]) for k in (1, 5)]
    return purses + more


class RuleCase(unittest.TestCase):
    def assert_rule(self, shape, claims):
        """The whole of points 4, 13 and 14 for one rule and claims."""
        rule = rule_of(shape)
        amounts = [Fraction(claim[0]) for claim in claims]
        path = rule.path(claims)
        self.assertEqual(faults_of_path(path), [], shape)
        self.assertEqual(path[-1], corner(amounts))
        if sum(amounts) == 0:
            self.assertEqual(path, nothing(len(claims)))
        for purse in between(path):
            wanted = divided(shape, claims, purse)
            self.assertEqual(sum(wanted), purse)
            self.assertTrue(all(0 <= part <= amount for part, amount in zip(wanted, amounts)))
            self.assertEqual(parts_of(path, purse), wanted, (shape, claims, purse))
        for purse in [0, sum(amounts) / 3, sum(amounts), sum(amounts) + Fraction(1, 9), 2 * sum(amounts) + 1]:
            wanted = divided(shape, claims, min(purse, sum(amounts)))
            self.assertEqual(rule.parts(claims, told(purse)), tuple(map(told, wanted)))
        return path

    def assert_parts(self, rule, claims, purse, wanted):
        self.assertEqual(rule.parts(claims, told(purse)), tuple(map(told, wanted)))


class WrittenExamples(RuleCase):
    def test_shares(self):
        claims = plain(100, 200, 300)
        self.assertEqual(Shares().path(claims), row([100, 200, 300]))
        self.assert_parts(Shares(), claims, 0, [0, 0, 0])
        self.assert_parts(Shares(), claims, 100, [Fraction(50, 3), Fraction(100, 3), 50])
        self.assert_parts(Shares(), claims, 600, [100, 200, 300])
        self.assert_parts(Shares(), claims, 601, [100, 200, 300])

    def test_evenly(self):
        claims = plain(300, 100, 200)
        self.assertEqual(Evenly().path(claims), row([100, 100, 100], [200, 100, 200], [300, 100, 200]))
        self.assert_parts(Evenly(), claims, 100, [Fraction(100, 3)] * 3)
        self.assert_parts(Evenly(), claims, 300, [100, 100, 100])
        self.assert_parts(Evenly(), claims, 400, [150, 100, 150])

    def test_losses(self):
        claims = plain(300, 100, 200)
        self.assertEqual(Losses().path(claims), row([100, 0, 0], [200, 0, 100], [300, 100, 200]))
        self.assert_parts(Losses(), claims, 50, [50, 0, 0])
        self.assert_parts(Losses(), claims, 200, [150, 0, 50])
        self.assert_parts(Losses(), claims, 450, [250, 50, 150])

    def test_halves(self):
        claims = plain(100, 200, 300)
        self.assertEqual(
            Halves().path(claims),
            row([50, 50, 50], [50, 100, 100], [50, 100, 200], [50, 150, 250], [100, 200, 300]),
        )
        self.assert_parts(Halves(), claims, 200, [50, 75, 75])
        self.assert_parts(Halves(), claims, 300, [50, 100, 150])
        self.assert_parts(Halves(), claims, 400, [50, 125, 225])

    def test_halves_of_odd_amounts(self):
        claims = plain(1, 3)
        half = Fraction(1, 2)
        self.assertEqual(Halves().path(claims), row([half, half], [half, 5 * half], [1, 3]))

    def test_other(self):
        claims = plain(300, 100)
        self.assertEqual(Other(Evenly()).path(claims), row([200, 0], [300, 100]))
        self.assertEqual(Other(Losses()).path(claims), row([100, 100], [300, 100]))

    def test_ranks(self):
        claims = [(10, 2, 0), (20, 1, 0), (30, 2, 0), (5, 7, 0)]
        self.assertEqual(
            Ranks(Evenly()).path(claims),
            row([0, 20, 0, 0], [10, 20, 10, 0], [10, 20, 30, 0], [10, 20, 30, 5]),
        )
        self.assert_parts(Ranks(Evenly()), claims, 21, [Fraction(1, 2), 20, Fraction(1, 2), 0])

    def test_groups(self):
        claims = [(10, 0, 8), (20, 0, 3), (30, 0, 8)]
        self.assertEqual(
            Groups(Evenly(), Losses()).path(claims),
            row([0, 20, 20], [10, 20, 30]),
        )
        self.assert_parts(Groups(Evenly(), Losses()), claims, 20, [0, 10, 10])
        self.assert_parts(Groups(Evenly(), Losses()), claims, 50, [5, 20, 25])

    def test_a_group_has_the_least_rank_of_its_claims(self):
        claims = [(4, 9, 1), (6, 5, 2), (3, 2, 1)]
        self.assertEqual(Groups(Ranks(Shares()), Evenly()).path(claims), row([3, 0, 3], [4, 0, 3], [4, 6, 3]))

    def test_a_group_is_one_claim_of_its_group(self):
        claims = [(4, 0, 1), (6, 0, 2), (2, 0, 1)]
        inner = Groups(Losses(), Evenly())
        self.assertEqual(Groups(inner, Shares()).path(claims), Groups(Losses(), Shares()).path(claims))

    def test_upto(self):
        claims = plain(30, 60)
        self.assertEqual(
            Upto((1, 3), Evenly(), Losses()).path(claims),
            row([10, 10], [10, 40], [30, 60]),
        )
        self.assertEqual(
            Upto((1, 3), Losses(), Evenly()).path(claims),
            row([0, 10], [30, 40], [30, 60]),
        )

    def test_upto_with_claims_that_are_no_whole_numbers(self):
        claims = plain(1, 5)
        self.assertEqual(
            Upto((2, 3), Evenly(), Losses()).path(claims),
            row([Fraction(2, 3), Fraction(2, 3)], [Fraction(2, 3), Fraction(14, 3)], [1, 5]),
        )

    def test_portions_keep_their_ranks_and_groups(self):
        claims = [(3, 4, 0), (5, 1, 6), (7, 1, 0)]
        rule = Upto((1, 2), Ranks(Shares()), Groups(Evenly(), Losses()))
        path = rule.path(claims)
        halves = [Fraction(3, 2), Fraction(5, 2), Fraction(7, 2)]
        self.assertEqual(parts_of(path, 6), [0, halves[1], halves[2]])
        self.assertEqual(parts_of(path, Fraction(15, 2)), halves)
        self.assertEqual(parts_of(path, Fraction(15, 2) + 4), [halves[0], halves[1] + 2, halves[2] + 2])


class AgainstThePoint(RuleCase):
    def test_each_kind_with_many_claims(self):
        random = Random(13)
        for count in range(1, 9):
            for shape in SOME_SHAPES:
                for figures in [1, 2, 60]:
                    self.assert_rule(shape, random_claims(random, count, figures))

    def test_nested_rules(self):
        random = Random(4)
        for turn in range(220):
            shape = random_shape(random, random.randint(2, 12))
            self.assert_rule(shape, random_claims(random, random.randint(1, 8)))

    def test_nested_rules_with_great_numbers(self):
        random = Random(60)
        for turn in range(12):
            shape = random_shape(random, random.randint(8, 12), figures=60)
            self.assert_rule(shape, random_claims(random, random.randint(5, 8), 60))

    def test_nested_rules_with_small_equal_amounts(self):
        random = Random(2)
        for turn in range(150):
            claims = [
                (random.randint(0, 2), random.randint(0, 2), random.randint(0, 2))
                for place in range(random.randint(1, 8))
            ]
            self.assert_rule(random_shape(random, random.randint(1, 8)), claims)

    def test_a_level_that_two_rules_reach_at_once(self):
        claims = [(2, 1, 1), (2, 0, 2), (4, 0, 1), (4, 1, 2)]
        for outer in SOME_SHAPES:
            for inner in SOME_SHAPES:
                self.assert_rule(("groups", outer, inner), claims)
                self.assert_rule(("upto", (1, 2), outer, inner), claims)
                self.assert_rule(("upto", (1, 2), ("other", outer), ("ranks", inner)), claims)

    def test_lines_that_go_on_straight_behind_a_portion_or_a_rank(self):
        for claims in [plain(3), plain(3, 5), plain(4, 4, 4), plain(0, 7, 0)]:
            self.assertEqual(Upto((1, 3), Shares(), Shares()).path(claims), Shares().path(claims))
        self.assertEqual(Halves().path(plain(5, 5)), row([5, 5]))
        self.assertEqual(Upto((3, 5), Evenly(), Halves()).path(plain(5, 5)), row([5, 5]))
        self.assertEqual(Ranks(Shares()).path([(5, 1, 0)]), row([5]))
        self.assertEqual(Ranks(Shares()).path([(0, 1, 0), (5, 2, 0), (0, 3, 0)]), row([0, 5, 0]))

    def test_one_claim_is_one_line(self):
        random = Random(1)
        for turn in range(60):
            shape = random_shape(random, random.randint(1, 12))
            self.assertEqual(rule_of(shape).path([(7, 3, 9)]), row([7]))

    def test_all_claims_together_nothing(self):
        random = Random(9)
        for count in range(1, 9):
            for shape in SOME_SHAPES + [random_shape(random, 9) for turn in range(6)]:
                claims = [(0, random.randint(0, 3), random.randint(0, 3)) for place in range(count)]
                self.assertEqual(rule_of(shape).path(claims), nothing(count))
                for purse in [(0, 1), (1, 10 ** 59), (5, 1)]:
                    self.assertEqual(rule_of(shape).parts(claims, purse), ((0, 1),) * count)


class OtherWayRound(RuleCase):
    def test_other_is_turned(self):
        random = Random(10)
        for turn in range(60):
            shape = random_shape(random, random.randint(1, 9))
            claims = random_claims(random, random.randint(1, 8))
            rule = rule_of(shape)
            self.assertEqual(Other(rule).path(claims), turned(rule.path(claims)))
            self.assertEqual(Other(Other(rule)).path(claims), rule.path(claims))

    def test_other_gives_what_the_rule_leaves_lacking(self):
        random = Random(11)
        for turn in range(40):
            rule = rule_of(random_shape(random, random.randint(1, 9)))
            claims = random_claims(random, random.randint(1, 8))
            whole = sum(claim[0] for claim in claims)
            for part in range(5):
                purse = Fraction(whole * part, 4)
                lacking = [claim[0] - meant(got) for claim, got in zip(claims, rule.parts(claims, told(whole - purse)))]
                self.assert_parts(Other(rule), claims, purse, lacking)


class RanksAndGroups(RuleCase):
    def test_one_rank(self):
        random = Random(21)
        for shape in SOME_SHAPES[:5] + SOME_SHAPES[6:]:
            claims = [(amount, 6, group) for amount, rank, group in random_claims(random, 7)]
            self.assertEqual(Ranks(rule_of(shape)).path(claims), rule_of(shape).path(claims))

    def test_a_rank_for_each_claim(self):
        claims = [(5, 8, 0), (0, 1, 0), (3, 0, 1), (4, 10 ** 59, 1), (9, 5, 2)]
        for shape in SOME_SHAPES:
            self.assertEqual(
                Ranks(rule_of(shape)).path(claims),
                row([0, 0, 3, 0, 0], [0, 0, 3, 0, 9], [5, 0, 3, 0, 9], [5, 0, 3, 4, 9]),
            )

    def test_one_group(self):
        random = Random(22)
        for outer in SOME_SHAPES:
            for inner in SOME_SHAPES:
                claims = [(amount, rank, 4) for amount, rank, group in random_claims(random, 6)]
                self.assertEqual(Groups(rule_of(outer), rule_of(inner)).path(claims), rule_of(inner).path(claims))

    def test_a_group_for_each_claim(self):
        random = Random(23)
        for outer in SOME_SHAPES:
            for inner in SOME_SHAPES:
                numbers = random.sample(range(50), 6)
                claims = [claim[:2] + (number,) for claim, number in zip(random_claims(random, 6), numbers)]
                self.assertEqual(Groups(rule_of(outer), rule_of(inner)).path(claims), rule_of(outer).path(claims))

    def test_a_group_of_nothing(self):
        claims = [(0, 0, 1), (4, 0, 2), (0, 0, 1), (6, 0, 2)]
        self.assertEqual(Groups(Evenly(), Losses()).path(claims), row([0, 0, 0, 2], [0, 4, 0, 6]))

    def test_the_order_of_the_claims_is_kept(self):
        random = Random(24)
        for turn in range(40):
            rule = rule_of(random_shape(random, random.randint(1, 9)))
            claims = random_claims(random, 6)
            order = random.sample(range(6), 6)
            wanted = [(purse, tuple(parts[place] for place in order)) for purse, parts in rule.path(claims)]
            self.assertEqual(rule.path([claims[place] for place in order]), wanted)


class Refused(RuleCase):
    def assert_refused(self, error, call, *given):
        with self.assertRaises(errors.PurseError) as caught:
            call(*given)
        self.assertIs(type(caught.exception), error)

    def wrong_claims(self):
        yield []
        yield plain(1, 2, 3, 4, 5, 6, 7, 8, 9)
        yield plain(*[0] * 20)
        for wrong in [(-1, 0, 0), (5, -1, 0), (5, 0, -1), (-(10 ** 59), 10 ** 59, 0), (0, 0, -1), (0, -1, 0)]:
            yield [wrong]
            yield [wrong] + plain(3, 4)
            yield plain(3, 4) + [wrong]
            yield plain(1, 2, 3, 4, 5, 6, 7) + [wrong]

    def test_no_claims(self):
        for shape in SOME_SHAPES:
            for claims in self.wrong_claims():
                self.assert_refused(errors.NoClaims, rule_of(shape).path, claims)
                self.assert_refused(errors.NoClaims, rule_of(shape).parts, claims, (1, 1))

    def test_no_purse(self):
        for shape in SOME_SHAPES:
            for claims in [plain(0), plain(3, 4), plain(*range(8))]:
                for purse in [(-1, 1), (-1, 10 ** 59), (-(10 ** 59), 7)]:
                    self.assert_refused(errors.NoPurse, rule_of(shape).parts, claims, purse)

    def test_no_purse_stands_behind_no_claims(self):
        for shape in SOME_SHAPES:
            for claims in self.wrong_claims():
                self.assert_refused(errors.NoClaims, rule_of(shape).parts, claims, (-1, 2))

    def test_edges_that_are_not_refused(self):
        for shape in SOME_SHAPES:
            for claims in [[(0, 0, 0)], plain(*[1] * 8), [(10 ** 60 - 1, 10 ** 60 - 1, 10 ** 60 - 1)] * 8]:
                self.assert_rule(shape, claims)


class HandedInAndTold(RuleCase):
    def test_claims_stay_as_they_were(self):
        random = Random(31)
        for turn in range(40):
            rule = rule_of(random_shape(random, 9))
            claims = random_claims(random, 6)
            kept = copy.deepcopy(claims)
            rule.path(claims)
            rule.parts(claims, (5, 2))
            self.assertEqual(claims, kept)

    def test_a_told_path_is_the_askers_own(self):
        random = Random(32)
        for shape in SOME_SHAPES + [random_shape(random, 9) for turn in range(20)]:
            rule = rule_of(shape)
            for claims in [plain(0, 0), random_claims(random, 5)]:
                first = rule.path(claims)
                wanted = list(first)
                first.clear()
                second = rule.path(claims)
                self.assertEqual(second, wanted)
                self.assertIsNot(rule.path(claims), second)
                self.assertEqual(rule.parts(claims, wanted[-1][0]), wanted[-1][1])

    def test_what_is_done_later_with_the_claims_changes_nothing(self):
        for shape in SOME_SHAPES:
            claims = [(5, 0, 1), (9, 1, 0), (2, 1, 1)]
            rule = rule_of(shape)
            wanted = list(rule.path(list(claims)))
            path = rule.path(claims)
            parts = rule.parts(claims, (7, 1))
            claims[0] = (1, 1, 1)
            claims.clear()
            self.assertEqual(path, wanted)
            self.assertEqual(parts, tuple(map(told, parts_of(wanted, 7))))

    def test_one_rule_within_several_and_asked_often(self):
        inner = Losses()
        rule = Groups(Upto((1, 3), inner, Other(inner)), Ranks(inner))
        claims = random_claims(Random(33), 8)
        path = rule.path(claims)
        inner.path(plain(1, 2))
        rule.path(plain(4, 4))
        self.assertEqual(rule.path(claims), path)

    def test_every_plain_rule_is_made_anew(self):
        for make in PLAIN.values():
            self.assertEqual(make().path(plain(3, 8)), make().path(plain(3, 8)))


if __name__ == "__main__":
    unittest.main()
