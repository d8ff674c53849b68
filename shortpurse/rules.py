"""Rules: each has a shape and a text, and tells a path for claims and the parts for a purse."""

from shortpurse.claims import check_claims
from shortpurse.courses import course
from shortpurse.paths import parts_at


class Rule:
    def __init__(self, form):
        self.form = form

    def shape(self):
        return self.form

    def text(self):
        return text_of(self.form)

    def path(self, claims):
        check_claims(claims)
        return course(self.form, claims)

    def parts(self, claims, purse):
        return parts_at(self.path(claims), purse)


class Shares(Rule):
    def __init__(self):
        Rule.__init__(self, ("shares",))


class Evenly(Rule):
    def __init__(self):
        Rule.__init__(self, ("evenly",))


class Losses(Rule):
    def __init__(self):
        Rule.__init__(self, ("losses",))


class Halves(Rule):
    def __init__(self):
        Rule.__init__(self, ("halves",))


class Other(Rule):
    def __init__(self, inner):
        Rule.__init__(self, ("other", inner.shape()))


class Ranks(Rule):
    def __init__(self, inner):
        Rule.__init__(self, ("ranks", inner.shape()))


class Groups(Rule):
    def __init__(self, outer, inner):
        Rule.__init__(self, ("groups", outer.shape(), inner.shape()))


class Upto(Rule):
    def __init__(self, portion, first, last):
        Rule.__init__(self, ("upto", portion, first.shape(), last.shape()))


def text_of(shape):
    word = shape[0]
    if len(shape) == 1:
        return word
    if word == "upto":
        pieces = [portion_text(shape[1])] + [text_of(inner) for inner in shape[2:]]
    else:
        pieces = [text_of(inner) for inner in shape[1:]]
    within_brackets = ", ".join(pieces)
    return f"{word}({within_brackets})"


def portion_text(portion):
    top = portion[0]
    bottom = portion[1]
    return f"{top}/{bottom}"
