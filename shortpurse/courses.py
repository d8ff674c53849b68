"""The path that the rule of a shape tells for claims."""

from shortpurse.claims import as_one_claim, places_of_group, places_of_rank, those_at
from shortpurse.fractions import minus
from shortpurse.paths import behind, scaled, turned, within


def course(shape, claims):
    word = shape[0]
    if word == "shares":
        return shares(claims)
    if word == "evenly":
        return evenly(claims)
    if word == "losses":
        return losses(claims)
    if word == "halves":
        return upto((1, 2), evenly(claims), losses(claims))
    if word == "other":
        return turned(course(shape[1], claims))
    if word == "ranks":
        return ranks(shape[1], claims)
    if word == "groups":
        return groups(shape[1], shape[2], claims)
    return upto(shape[1], course(shape[2], claims), course(shape[3], claims))


def shares(claims):
    amounts = [claim[0] for claim in claims]
    if sum(amounts) == 0:
        return nothing(len(amounts))
    return nothing(len(amounts)) + [whole_corner(amounts)]


def evenly(claims):
    amounts = [claim[0] for claim in claims]
    # As the level passes an amount one rises less, so that each of these is a bend.
    return [
        whole_corner([min(amount, level) for amount in amounts])
        for level in sorted(set([0] + amounts))
    ]


def losses(claims):
    # What is lacking is the lesser one of the amount and the loss: it is divided evenly.
    return turned(evenly(claims))


def ranks(inner, claims):
    path = nothing(len(claims))
    for rank in sorted(set([claim[1] for claim in claims])):
        places = places_of_rank(claims, rank)
        paid = course(inner, those_at(claims, places))
        path = behind(path, spread(paid, places, len(claims)))
    return path


def groups(outer, inner, claims):
    sums = []
    others = []
    places = []
    for group in sorted(set([claim[2] for claim in claims])):
        members = places_of_group(claims, group)
        sums.append(as_one_claim(those_at(claims, members), group))
        others.append(course(inner, those_at(claims, members)))
        places.extend(members)
    return spread(within(course(outer, sums), others), places, len(claims))


def upto(portion, first, last):
    # Every rule's path for the same portion of all amounts is its path for the
    # amounts, scaled: so the amounts stay whole numbers throughout.
    return behind(scaled(first, portion), scaled(last, minus((1, 1), portion)))


def nothing(count):
    return [whole_corner([0] * count)]


def whole_corner(parts):
    return ((sum(parts), 1), tuple([(part, 1) for part in parts]))


def spread(path, places, count):
    return [(corner[0], spread_parts(corner[1], places, count)) for corner in path]


def spread_parts(parts, places, count):
    wide = [(0, 1)] * count
    for part, place in zip(parts, places):
        wide[place] = part
    return tuple(wide)
