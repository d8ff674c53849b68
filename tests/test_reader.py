"""Point 15: shapes and texts, a text read, and where a text fails."""

import copy
import re
import unittest
from math import gcd
from random import Random

from helper import SOME_SHAPES, random_claims, random_shape, rule_of, text_of
from shortpurse import errors, rules
from shortpurse.reader import read

LEAVES = [("shares",), ("evenly",), ("losses",), ("halves",)]
SIXTY = 10 ** 60 - 1


def shapes_of(parts):
    """Every shape of so many parts, with the one portion 1/2."""
    if parts == 1:
        return LEAVES
    shapes = [(word, inner) for word in ["other", "ranks"] for inner in shapes_of(parts - 1)]
    for cut in range(1, parts - 1):
        for one in shapes_of(cut):
            for two in shapes_of(parts - 1 - cut):
                shapes += [("groups", one, two), ("upto", (1, 2), one, two)]
    return shapes


def beginnings(texts):
    return {text[:end] for text in texts for end in range(len(text) + 1)}


class ShapesAndTexts(unittest.TestCase):
    def assert_told(self, rule, shape, text):
        self.assertEqual(rule.shape(), shape)
        self.assertEqual(rule.text(), text)
        self.assertIsInstance(rule, rules.Rule)
        again = read(text)
        self.assertIs(type(again), type(rule))
        self.assertEqual(again.shape(), shape)
        self.assertEqual(again.text(), text)

    def test_every_kind(self):
        one, two = rules.Shares(), rules.Losses()
        self.assert_told(one, ("shares",), "shares")
        self.assert_told(rules.Evenly(), ("evenly",), "evenly")
        self.assert_told(two, ("losses",), "losses")
        self.assert_told(rules.Halves(), ("halves",), "halves")
        self.assert_told(rules.Other(one), ("other", ("shares",)), "other(shares)")
        self.assert_told(rules.Ranks(two), ("ranks", ("losses",)), "ranks(losses)")
        self.assert_told(rules.Groups(one, two), ("groups", ("shares",), ("losses",)), "groups(shares, losses)")
        self.assert_told(
            rules.Upto((2, 13), one, two),
            ("upto", (2, 13), ("shares",), ("losses",)),
            "upto(2/13, shares, losses)",
        )

    def test_arguments_by_their_names(self):
        one, two = rules.Shares(), rules.Losses()
        self.assertEqual(rules.Other(inner=one).text(), "other(shares)")
        self.assertEqual(rules.Ranks(inner=one).text(), "ranks(shares)")
        self.assertEqual(rules.Groups(inner=two, outer=one).text(), "groups(shares, losses)")
        self.assertEqual(rules.Upto(last=two, first=one, portion=(1, 2)).text(), "upto(1/2, shares, losses)")
        self.assertEqual(one.path(claims=[(1, 0, 0)])[-1], ((1, 1), ((1, 1),)))
        self.assertEqual(one.parts(claims=[(1, 0, 0)], purse=(1, 2)), ((1, 2),))
        self.assertEqual(read(text="halves").shape(), ("halves",))

    def test_every_shape_of_up_to_five_parts(self):
        for parts in range(1, 6):
            for shape in shapes_of(parts):
                self.assert_told(rule_of(shape), shape, text_of(shape))

    def test_nested_and_with_great_portions(self):
        random = Random(15)
        for turn in range(200):
            shape = random_shape(random, random.randint(1, 12), figures=random.choice([1, 5, 60]))
            self.assert_told(rule_of(shape), shape, text_of(shape))

    def test_great_portions(self):
        for portion in [(1, SIXTY), (SIXTY - 1, SIXTY), (10 ** 59, 10 ** 59 + 1), (9, 10), (10, 11), (99, 100)]:
            shape = ("upto", portion, ("halves",), ("evenly",))
            self.assert_told(rule_of(shape), shape, text_of(shape))

    def test_far_more_figures_than_sixty(self):
        portion = (10 ** 3990 - 1, 10 ** 3990)
        shape = ("upto", portion, ("halves",), ("evenly",))
        self.assert_told(rule_of(shape), shape, text_of(shape))

    def test_eleven_brackets(self):
        text = "other(ranks(" * 5 + "groups(shares, losses" + ")" * 11
        self.assertEqual(read(text).text(), text)

    def test_a_shape_stays_as_it_was(self):
        for shape in SOME_SHAPES:
            rule = rule_of(shape)
            kept = copy.deepcopy(rule.shape())
            rule.path([(3, 1, 0), (4, 0, 1)])
            self.assertEqual(rule.shape(), kept)

    def test_what_is_read_divides_alike(self):
        random = Random(16)
        for turn in range(30):
            shape = random_shape(random, random.randint(1, 9))
            claims = random_claims(random, 6)
            self.assertEqual(read(text_of(shape)).path(claims), rule_of(shape).path(claims))


class Refused(unittest.TestCase):
    def assert_fails(self, text, at):
        with self.assertRaises(errors.PurseError, msg=text) as caught:
            read(text)
        self.assertIs(type(caught.exception), errors.NoRule)
        self.assertIs(type(caught.exception.at), int)
        self.assertEqual(caught.exception.at, at, text)

    def test_the_five_examples(self):
        self.assert_fails("upto(2/4, ", len("upto(2/4"))
        self.assert_fails("upto(2/41", len("upto(2/41"))
        self.assert_fails("upto(3/2", len("upto(3/2"))
        self.assert_fails("upto(0", len("upto("))
        self.assert_fails("upto(2/0", len("upto(2/"))
        self.assert_fails("upto(1/1,", len("upto(1/1"))
        self.assertEqual(read("upto(2/41, shares, shares)").shape()[1], (2, 41))
        self.assertEqual(read("upto(3/20, shares, shares)").shape()[1], (3, 20))

    def test_an_empty_text(self):
        self.assert_fails("", 0)

    def test_a_wrong_sign(self):
        self.assert_fails("x", 0)
        self.assert_fails(" shares", 0)
        self.assert_fails("Shares", 0)
        self.assert_fails("(shares)", 0)
        self.assert_fails(")", 0)
        self.assert_fails("~", 0)
        self.assert_fails("sharks", 4)
        self.assert_fails("shared", 5)
        self.assert_fails("even", 4)
        self.assert_fails("evenness", 4)
        self.assert_fails("other shares", 5)
        self.assert_fails("other(x)", 6)
        self.assert_fails("other( shares)", 6)
        self.assert_fails("other()", 6)
        self.assert_fails("other(shares, shares)", 12)
        self.assert_fails("groups(shares)", 13)
        self.assert_fails("groups(shares,losses)", 14)
        self.assert_fails("groups(shares,  losses)", 15)
        self.assert_fails("groups(shares ,losses)", 13)
        self.assert_fails("groups(shares, losses, evenly)", 21)
        self.assert_fails("upto(shares, losses)", 5)
        self.assert_fails("upto(1, shares, losses)", 6)
        self.assert_fails("upto(1/2)", 8)
        self.assert_fails("upto(1/2,shares, losses)", 9)
        self.assert_fails("upto(1/2, shares)", 16)
        self.assert_fails("upto(1/2, 3/4, shares)", 10)
        self.assert_fails("upto(-1/2, shares, losses)", 5)
        self.assert_fails("upto(1/-2, shares, losses)", 7)
        self.assert_fails("upto(+1/2, shares, losses)", 5)
        self.assert_fails("upto( 1/2, shares, losses)", 5)
        self.assert_fails("upto(1 /2, shares, losses)", 6)
        self.assert_fails("upto(1_0/21, shares, losses)", 6)
        self.assert_fails("upto(1.5/2, shares, losses)", 6)
        self.assert_fails("upto(1/2 , shares, losses)", 8)

    def test_a_text_that_ends_too_early(self):
        for shape in SOME_SHAPES + [random_shape(Random(seed), 9, figures=3) for seed in range(30)]:
            text = text_of(shape)
            for end in range(len(text)):
                self.assert_fails(text[:end], end)

    def test_something_behind_the_end(self):
        for shape in SOME_SHAPES + [random_shape(Random(seed), 9, figures=3) for seed in range(30)]:
            text = text_of(shape)
            for more in [" ", ")", ",", "(", "s", "0", "~", text, ", " + text, "\n"]:
                self.assert_fails(text + more, len(text))

    def test_portions_not_in_lowest_terms(self):
        self.assert_fails("upto(6/9, shares, shares)", 8)
        self.assert_fails("upto(10/20, shares, shares)", 10)
        self.assert_fails("upto(35/119, shares, shares)", 11)
        great = 10 ** 58
        self.assert_fails(f"upto({2 * great}/{3 * great}, shares, shares)", len(f"upto({2 * great}/{3 * great}"))

    def test_portions_not_below_one(self):
        self.assert_fails("upto(1/1, shares, shares)", 8)
        self.assert_fails("upto(3/2, shares, shares)", 8)
        self.assert_fails("upto(12/5, shares, shares)", 9)
        self.assert_fails("upto(7/7, shares, shares)", 8)
        self.assert_fails(f"upto({SIXTY}/{SIXTY - 1}, shares, shares)", 126)

    def test_portions_with_noughts_ahead(self):
        self.assert_fails("upto(01/2, shares, shares)", 5)
        self.assert_fails("upto(1/02, shares, shares)", 7)
        self.assert_fails("upto(0/1, shares, shares)", 5)
        self.assert_fails("upto(1/0, shares, shares)", 7)
        self.assert_fails("upto(00", 5)

    def test_the_portion_of_a_rule_within(self):
        ahead = "other(groups(evenly, upto(1/2, shares, "
        self.assert_fails(ahead + "upto(2/4, shares, shares))))", len(ahead) + len("upto(2/4"))
        self.assert_fails(ahead + "upto(1/03", len(ahead) + len("upto(1/"))

    def test_figures_that_are_none_of_these(self):
        self.assert_fails("upto(\u0661/2, shares, shares)", 5)
        self.assert_fails("upto(1\u0661/22, shares, shares)", 6)
        self.assert_fails("upto(1/\u00b2, shares, shares)", 7)
        self.assert_fails("upto(1/2\u00b2, shares, shares)", 8)

    def test_every_portion_of_up_to_two_figures(self):
        # Three figures are enough to mend any bottom of two behind a top of two.
        starts = beginnings(
            f"upto({top}/{bottom}," for top in range(1, 100) for bottom in range(top + 1, 1000)
            if gcd(top, bottom) == 1
        )
        looked = [start for start in starts if len(start) > 4 and len(start.partition("/")[2]) < 3]
        for start in looked:
            self.assert_fails(start, len(start))
            signs = "0123456789/, )s" if start.endswith(("(", "/")) else "/, )s"
            for sign in signs:
                if start + sign not in starts and not start.endswith(","):
                    self.assert_fails(start + sign + "1, shares, shares)", len(start))

    def test_every_sign_behind_every_beginning(self):
        # A sign more makes the last word another one, with two parts more at the most.
        longer = beginnings(text_of(shape) for parts in range(1, 7) for shape in shapes_of(parts))
        whole = {text_of(shape) for parts in range(1, 5) for shape in shapes_of(parts)}
        for start in beginnings(whole):
            if start not in whole:
                self.assert_fails(start, len(start))
            figures = "" if re.search(r"upto\([0-9/]*$", start) else "0123456789"
            for sign in "shareslvnyopkgutSX()/, ~" + figures:
                if start + sign not in longer:
                    self.assert_fails(start + sign, len(start))


if __name__ == "__main__":
    unittest.main()
