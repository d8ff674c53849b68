"""Divisions looked at: those who stay when others go away, and each two by themselves."""

from shortpurse.claims import check_claims, those_at
from shortpurse.errors import NoDivision, NoPlace
from shortpurse.fractions import before, is_whole, plus


def staying(rule, claims, purse, away):
    parts = rule.parts(claims, purse)
    check_places(away, len(claims))
    places = [place for place in range(len(claims)) if place not in away]
    if len(places) == 0:
        return []
    left = total([parts[place] for place in places])
    return list(zip(places, rule.parts(those_at(claims, places), left)))


def pair_off(rule, claims, parts):
    check_claims(claims)
    check_division(claims, parts)
    for i in range(len(claims)):
        for j in range(i + 1, len(claims)):
            together = plus(parts[i], parts[j])
            alone = rule.parts([claims[i], claims[j]], together)
            if alone != (parts[i], parts[j]):
                return (i, j, alone[0], alone[1])
    return None


def check_places(places, count):
    for place in places:
        if not is_whole(place) or place < 0 or place >= count:
            raise NoPlace("a place of no claim")


def check_division(claims, parts):
    if len(parts) != len(claims):
        raise NoDivision("a division has one part for each claim")
    for claim, part in zip(claims, parts):
        if part[0] < 0 or before((claim[0], 1), part):
            raise NoDivision("a part that is not from 0 to the amount")


def total(numbers):
    whole = (0, 1)
    for number in numbers:
        whole = plus(whole, number)
    return whole
