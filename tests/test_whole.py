"""Point 4: what holds over the whole program; and the interface, name by name."""

import inspect
import unittest
from fractions import Fraction
from random import Random

from helper import SOME_SHAPES, divided, meant, parts_of, random_claims, random_shape, rule_of, some_purses, told
from shortpurse import errors, fractions, looks, paths, reader, rules
from shortpurse.looks import pair_off, staying
from shortpurse.paths import parted

ARGUMENTS = {
    fractions.fraction: "top bottom",
    fractions.plus: "one two",
    fractions.minus: "one two",
    fractions.times: "one two",
    fractions.over: "one two",
    fractions.before: "one two",
    paths.thinned: "corners",
    paths.parts_at: "path purse",
    paths.turned: "path",
    paths.scaled: "path portion",
    paths.behind: "path second",
    paths.within: "path others",
    paths.parted: "path second",
    rules.Rule.shape: "self",
    rules.Rule.text: "self",
    rules.Rule.path: "self claims",
    rules.Rule.parts: "self claims purse",
    rules.Shares: "",
    rules.Evenly: "",
    rules.Losses: "",
    rules.Halves: "",
    rules.Other: "inner",
    rules.Ranks: "inner",
    rules.Groups: "outer inner",
    rules.Upto: "portion first last",
    reader.read: "text",
    looks.staying: "rule claims purse away",
    looks.pair_off: "rule claims parts",
}


def purses_for(claims):
    whole = sum(claim[0] for claim in claims)
    return [Fraction(whole * k, 7) for k in range(8)] + [Fraction(whole, 2), Fraction(2 * whole, 3)]


class Interface(unittest.TestCase):
    def test_arguments(self):
        for call, names in ARGUMENTS.items():
            self.assertEqual(list(inspect.signature(call).parameters), names.split(), call)

    def test_every_rule_stands_under_rule(self):
        for name in ["Shares", "Evenly", "Losses", "Halves", "Other", "Ranks", "Groups", "Upto"]:
            self.assertTrue(issubclass(getattr(rules, name), rules.Rule), name)


class Division(unittest.TestCase):
    def test_parts_come_to_the_purse_and_none_falls(self):
        random = Random(41)
        for turn in range(120):
            rule = rule_of(random_shape(random, random.randint(1, 12)))
            claims = random_claims(random, random.randint(1, 8), random.choice([1, 2, 60]))
            whole = sum(claim[0] for claim in claims)
            ahead = [Fraction(0)] * len(claims)
            for purse in sorted(purses_for(claims)) + [whole + 1, 3 * whole + 1]:
                parts = [meant(part) for part in rule.parts(claims, told(purse))]
                self.assertEqual(sum(parts), min(purse, whole))
                for before, part, claim in zip(ahead, parts, claims):
                    self.assertTrue(before <= part <= claim[0])
                ahead = parts

    def test_corners_tell_every_purse(self):
        random = Random(42)
        for turn in range(60):
            rule = rule_of(random_shape(random, random.randint(1, 12)))
            claims = random_claims(random, random.randint(1, 8))
            path = rule.path(claims)
            for purse in some_purses(path):
                self.assertEqual(rule.parts(claims, told(purse)), tuple(map(told, parts_of(path, purse))))


class WithoutGroups(unittest.TestCase):
    def some_rules(self, seed, turns):
        random = Random(seed)
        for turn in range(turns):
            shape = random_shape(random, random.randint(1, 9), grouped=False)
            yield random, shape, random_claims(random, random.randint(2, 8), random.choice([1, 2, 30]))

    def test_who_goes_away_leaves_the_others_their_parts(self):
        for random, shape, claims in self.some_rules(43, 60):
            for purse in purses_for(claims):
                parts = rule_of(shape).parts(claims, told(purse))
                away = [random.randrange(len(claims)) for place in range(random.randint(0, 5))]
                wanted = [(place, part) for place, part in enumerate(parts) if place not in away]
                self.assertEqual(staying(rule_of(shape), claims, told(purse), away), wanted)

    def test_the_rules_division_is_so_two_by_two(self):
        for random, shape, claims in self.some_rules(44, 40):
            for purse in purses_for(claims):
                self.assertIsNone(pair_off(rule_of(shape), claims, list(rule_of(shape).parts(claims, told(purse)))))

    def test_another_division_is_told_with_two(self):
        others = 0
        for random, shape, claims in self.some_rules(45, 150):
            bottom = random.randint(1, 3)
            parts = [Fraction(random.randint(0, claim[0] * bottom), bottom) for claim in claims]
            answer = pair_off(rule_of(shape), claims, [told(part) for part in parts])
            if parts == divided(shape, claims, sum(parts)):
                self.assertIsNone(answer)
            else:
                others += 1
                i, j, one, two = answer
                self.assertTrue(0 <= i < j < len(claims))
                self.assertEqual(meant(one) + meant(two), parts[i] + parts[j])
                self.assertNotEqual((meant(one), meant(two)), (parts[i], parts[j]))
        self.assertGreater(others, 100)


class HeldAgainstOneAnother(unittest.TestCase):
    def test_rules_that_divide_the_same(self):
        random = Random(46)
        for turn in range(40):
            claims = random_claims(random, random.randint(1, 8))
            shape = random_shape(random, random.randint(1, 6))
            for one, two in [
                (("losses",), ("other", ("evenly",))),
                (("halves",), ("other", ("halves",))),
                (("halves",), ("upto", (1, 2), ("evenly",), ("losses",))),
                (shape, ("other", ("other", shape))),
                (("ranks", shape), ("ranks", ("ranks", shape))),
            ]:
                self.assertIsNone(parted(rule_of(one).path(claims), rule_of(two).path(claims)))
                self.assertEqual(rule_of(one).path(claims), rule_of(two).path(claims))

    def test_rules_that_part(self):
        random = Random(47)
        looked = 0
        for turn in range(80):
            claims = random_claims(random, random.randint(1, 8))
            one, two = random_shape(random, random.randint(1, 8)), random_shape(random, random.randint(1, 8))
            path, second = rule_of(one).path(claims), rule_of(two).path(claims)
            answer = parted(path, second)
            self.assertEqual(answer is None, path == second)
            if answer is None:
                continue
            looked += 1
            same, later, place = meant(answer[0]), meant(answer[1]), answer[2]
            for purse in some_purses(path, second):
                if purse <= same:
                    self.assertEqual(divided(one, claims, purse), divided(two, claims, purse))
            little = (later - same) / 10 ** 6
            self.assertNotEqual(divided(one, claims, same + little), divided(two, claims, same + little))
            self.assertNotEqual(divided(one, claims, later)[place], divided(two, claims, later)[place])
        self.assertGreater(looked, 40)


class RefusedAlone(unittest.TestCase):
    def test_nothing_is_refused_for_a_purse_too_great(self):
        for shape in SOME_SHAPES:
            self.assertEqual(rule_of(shape).parts([(3, 0, 1), (4, 1, 0)], (10 ** 59, 1)), ((3, 1), (4, 1)))

    def test_all_refusals_can_be_taken_as_one(self):
        calls = [
            lambda: fractions.fraction(1, 0),
            lambda: rules.Shares().path([]),
            lambda: rules.Shares().parts([(1, 0, 0)], (-1, 1)),
            lambda: reader.read("share"),
            lambda: staying(rules.Shares(), [(1, 0, 0)], (1, 1), [1]),
            lambda: pair_off(rules.Shares(), [(1, 0, 0)], []),
        ]
        for call in calls:
            self.assertRaises(errors.PurseError, call)
            self.assertRaises(ValueError, call)


if __name__ == "__main__":
    unittest.main()
