"""Texts read to rules."""

from shortpurse.errors import NoRule
from shortpurse.fractions import fraction
from shortpurse.rules import Evenly, Groups, Halves, Losses, Other, Ranks, Shares, Upto

# No two begin with the same sign, so that the first sign tells the word.
WORDS = ("shares", "evenly", "losses", "halves", "other(", "ranks(", "groups(", "upto(")
FIGURES = ("0", "1", "2", "3", "4", "5", "6", "7", "8", "9")


class Walk:
    # The signs from `at` on are still to be read.
    def __init__(self, signs):
        self.signs = signs
        self.at = 0

    def sign(self):
        return self.signs[self.at:self.at + 1]

    def expect(self, word):
        for wanted in word:
            if self.sign() != wanted:
                raise NoRule(self.at)
            self.at += 1


def read(text):
    walk = Walk(text)
    rule = read_rule(walk)
    if walk.sign() != "":
        raise NoRule(walk.at)
    return rule


def read_rule(walk):
    word = read_word(walk)
    if word == "shares":
        return Shares()
    if word == "evenly":
        return Evenly()
    if word == "losses":
        return Losses()
    if word == "halves":
        return Halves()
    rule = read_within_brackets(walk, word)
    walk.expect(")")
    return rule


def read_word(walk):
    for word in WORDS:
        if walk.sign() == word[0]:
            walk.expect(word)
            return word
    raise NoRule(walk.at)


def read_within_brackets(walk, word):
    if word == "other(":
        return Other(read_rule(walk))
    if word == "ranks(":
        return Ranks(read_rule(walk))
    if word == "groups(":
        outer = read_rule(walk)
        walk.expect(", ")
        return Groups(outer, read_rule(walk))
    portion = read_portion(walk)
    walk.expect(", ")
    first = read_rule(walk)
    walk.expect(", ")
    return Upto(portion, first, read_rule(walk))


def read_portion(walk):
    top = read_number(walk)
    walk.expect("/")
    bottom = read_number(walk)
    # Further figures could mend any bottom, so that what fails is the sign behind the last one.
    if bottom <= top or fraction(top, bottom) != (top, bottom):
        raise NoRule(walk.at)
    return (top, bottom)


def read_number(walk):
    if walk.sign() not in FIGURES[1:]:
        raise NoRule(walk.at)
    number = 0
    while walk.sign() in FIGURES:
        number = number * 10 + FIGURES.index(walk.sign())
        walk.at += 1
    return number
